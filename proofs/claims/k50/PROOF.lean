import PyProof.Rows.All
import Wide.All
import OpenK.AllK
import Wide.FinOn
import PyProof.ReprRoads
import HandS.ForMost
import HandS.Wide
import PyProof.StrLawsRepr
import PyProof.ReprLen
import HandS.TupAny
import HandS.Gcd
import HandS.More
import HandS.IsInst
import HandS.Style
import HandS.Defaults
import Flt.RightSqrt
import HandS.SortRule
import HandS.Codes
import HandS.WideBits
import HandS.Text
import HandS.Rev
import HandS.TryOnly
import HandS.SortInts
import HandS.Conv
import PySem.Challenge.RW_pointsum_k50_whole_quartics_with_a_squar
set_option Elab.async false
set_option linter.all false
set_option maxRecDepth 100000
/-! Promises that know that no repr is under way around the call; repr of plain data. -/
namespace Gd
open PySem PySem.Spec PyProof.Rows L2
/-- as the layer's FnOk, for calls around which nothing is being shown -/
structure FnG (P : Program) (w : World) (K : PySem.W.Frag) (mg : Str → Option Value) (base : Heap) (k : Nat) (f : Addr) (fd : FuncData) (ps : List Str) (sp : Sp) : Prop where
  many : ∀ vs H Q E, sp vs H Q E → vs.length = ps.length
  goes : ∀ (A : Around) (outer : List Env) (s : Shared) (H : Hp) (args : Args) (us : List Value) (vs : List V) (Q : VK) (E : XK), A.guards = some [] → Room k A → Env0 P w K mg base A outer s H →
    BindsTo s fd args (ps.zip us) → Vals vs us → sp vs H Q E → codeAny (model P w) A (.call (.ref f) args) (CR CX0 outer P w H s Q E) s
section
variable {P : Program} {w : World} {K : PySem.W.Frag} {mg : Str → Option Value} {base : Heap}
theorem FnG.of {k : Nat} {f : Addr} {fd : FuncData} {ps : List Str} {sp : Sp} (F : FnOk P w K mg base CX0 k f fd ps sp) : FnG P w K mg base k f fd ps sp :=
  ⟨F.len, fun A outer s H args us vs Q E _ => F.run A outer s H args us vs Q E⟩
theorem FnG.up {j k : Nat} {f : Addr} {fd : FuncData} {ps : List Str} {sp : Sp} (F : FnG P w K mg base j f fd ps sp) (h : j ≤ k) : FnG P w K mg base k f fd ps sp :=
  ⟨F.many, fun A outer s H args us vs Q E hg hr => F.goes A outer s H args us vs Q E hg (hr.mono h)⟩
/-- a def by its body -/
theorem FnG.by_body {x qual : Str} {st : Stmt} {f : Addr} {fd : FuncData} {N ps : List Str} {k : Nat} {sp : Sp} (F : Fun K x qual st f fd) (S : FnScope N ps (defScope st)) (len : ∀ vs H Q E, sp vs H Q E → vs.length = ps.length)
    (hb : ∀ (cdv : Value) (A : Around) (outer : List Env) (s : Shared) (H : Hp) (vs : List V) (Q : VK) (E : XK), A.guards = some [] → Room k (A.deeper (envOfC qual (defScope st) s.heap.objs.size f cdv)) → sp vs H Q E →
      ∃ t, PSs (cxOf CX0 P w K mg base N qual (defScope st) f cdv A outer s H E).nox (defBody st) t ∧ t { nx := fun _ H' => Q .non H', rt := Q } (start N vs) H) : FnG P w K mg base (k + 1) f fd ps sp := by
  obtain ⟨oc, od, kV, doc, pm, an, cdv, ct, osl, rfl, lk, hcd⟩ := F.ex
  constructor
  · exact len
  · intro A outer s H args us vs Q E hg hr e0 hbi rv hsp
    have hlen := len _ _ _ _ hsp
    have lim : s.heap.NoLimit := e0.mod.nolimit.keeps fun b o e => (e0.bs b o e).1
    have inK : K.In s.heap := e0.mod.kin.keeps fun b o e => (e0.bs b o e).1
    have kinds : ∀ y ∈ ps.zip us, (defScope st).names.lookup y.1 = some .local ∨ ((defScope st).names.lookup y.1 = some .cell ∧ ((cellsFrom (s.heap.objs.size + 1) (defScope st).names []).lookup y.1).isSome = true) := by
      rintro ⟨n, v⟩ hy
      have hp := S.par n (List.of_mem_zip hy).1
      cases hp with
      | inl q => exact Or.inl q
      | inr q => exact Or.inr ⟨q, PySem.W.cellsFrom_some _ _ _ (Or.inl q)⟩
    refine codeAny_call_function hr.depth (inK _ _ lk) rfl S.co S.gen rfl (PySem.W.codeRec_of inK hcd) (hbi _ _ _ _ ?_)
    refine wpAny_newFunctionEnv_cells S.kind kinds fun env he s1 x1 => ?_
    subst he
    refine ⟨lim.keeps x1.toInCall.keep, codeAny_func ?_⟩
    obtain ⟨t, ht, hq⟩ := hb cdv A outer s H vs Q E hg (hr.deeper _) hsp
    have I0 : Inv (cxOf CX0 P w K mg base N qual (defScope st) f cdv A outer s H E) [] (start N vs) H s1 := inv_start S hr.hd e0 hlen rv x1
    refine wpAny_mono (ht.nox.run [] s1 (start N vs) H _ I0 hq) (fun fl s' hs => ?_) fun e s' hs => hs
    match fl, hs with
    | .ret u, ⟨v, σ', H', J, r1, q1⟩ => exact ⟨v, H', J.os, J.bare, J.base, J.hok, r1, q1⟩
    | .next, ⟨σ', H', J, q1⟩ => exact ⟨V.non, H', J.os, J.bare, J.base, J.hok, rfl, q1⟩
    | .brk, ⟨_, _, _, q1⟩ => exact q1.elim
    | .cont, ⟨_, _, _, q1⟩ => exact q1.elim
end
/-- f(e, ..) where every parameter is given -/
def tKal (sp : Sp) (t : TA) : TE := fun σ H Q => t σ H fun vs H1 => sp vs H1 Q E0
/-- a def that may be called by its name -/
structure Kl (P : Program) (w : World) (K : PySem.W.Frag) (mg : Str → Option Value) (base : Heap) (k : Nat) (x : Str) (sp : Sp) : Prop where
  ex : ∃ (f : Addr) (fd : FuncData) (ps : List Str), FnOk P w K mg base CX0 k f fd ps sp ∧ mg x = some (.ref f) ∧ PySem.W.keepIn K (.ref f) = true ∧ Binds K fd ps []
structure Kg (P : Program) (w : World) (K : PySem.W.Frag) (mg : Str → Option Value) (base : Heap) (k : Nat) (x : Str) (sp : Sp) : Prop where
  ex : ∃ (f : Addr) (fd : FuncData) (ps : List Str), FnG P w K mg base k f fd ps sp ∧ mg x = some (.ref f) ∧ PySem.W.keepIn K (.ref f) = true ∧ Binds K fd ps []
section
variable {X : Cx} {j k : Nat} {f : Addr} {fd : FuncData} {ps : List Str} {sp : Sp} {x : Str} {p pos : Pos} {e : Expr} {es : List Expr} {t : TA}
theorem run_g {pins : List (Addr × Obj)} {σ : L2.St} {H : Hp} {s : Shared} {Q : VK} {us : List Value} {vs : List V} (F : FnG X.prog X.w X.K X.mg X.base k f fd ps sp) (hg : X.A.guards = some []) (hr : Room k X.A) (hb : Binds X.K fd ps [])
    (I : Inv X pins σ H s) (r : Vals vs us) (h : sp vs H Q E0) : wpAny (model X.prog X.w) X.A (call (.ref f) us) (EP X pins σ Q) X.xe s := by
  have hl : us.length = ps.length := r.length.symm.trans (F.many _ _ _ _ h)
  have hbb := hb s us I.kIn (by rw [List.append_nil]; exact hl)
  rw [List.append_nil] at hbb
  refine wpAny_call (codeAny_mono (F.goes X.A X.stack s H ⟨us, []⟩ us vs Q E0 hg hr I.env0 hbb r h) fun res s' hq => ?_)
  match res, hq with
  | .ok (.ret u), hq => exact I.after hq
  | .error e, hq => exact (show False from hq).elim
theorem pe_g (c : Kg X.prog X.w X.K X.mg X.base k x sp) (hgd : X.A.guards = some []) (hr : Room j X.A) (hk : k ≤ j) (hg : Gl X x) (ha : PA X (e :: es) t)
    (hdb : (x == ("__debug__" : Str)) = false := by decide) (he : starEach (e :: es) X.env = (false, eval e X.env) :: starEach es X.env := by rfl) (hpl : (backTo pos (starEach es X.env)).any (·.1) = false := by rfl) :
    PE X (.Call (.Name x p) (e :: es) [] pos) (tKal sp t) := by
  obtain ⟨f, fd, ps, F, hm, kp, b⟩ := c.ex
  constructor
  intro pins s σ H Q I h
  refine wpAny_Call_Name_kw (ld_glob I hg hm ?_ hdb)
  refine PySem.W.callWith_K (h₀ := X.base) I.ok.mod.kin kp (thn (ha.run pos pins s σ H _ I h) fun us s1 ⟨vs, H1, I1, r, q⟩ => ⟨I1.kIn, ?_⟩) he hpl
  exact run_g F hgd (hr.mono hk) b I1 r q
theorem pe_k (c : Kl X.prog X.w X.K X.mg X.base k x sp) (hr : Room j X.A) (hk : k ≤ j) (hg : Gl X x) (ha : PA X (e :: es) t)
    (hdb : (x == ("__debug__" : Str)) = false := by decide) (he : starEach (e :: es) X.env = (false, eval e X.env) :: starEach es X.env := by rfl) (hpl : (backTo pos (starEach es X.env)).any (·.1) = false := by rfl) :
    PE X (.Call (.Name x p) (e :: es) [] pos) (tKal sp t) := by
  obtain ⟨f, fd, ps, F, hm, kp, b⟩ := c.ex
  have h := pe_call (sp := sp) (E := E0) (dvs := []) F (hr.mono hk) hg hm kp b .nil pass0 ha hdb he hpl (pos := pos) (p := p)
  constructor
  intro pins s σ H Q I q
  refine h.run pins s σ H Q I ?_
  have e2 : tCall sp [] E0 t = tKal sp t := by
    funext σ H Q
    show t σ H (fun vs H1 => sp (vs ++ []) H1 Q E0) = t σ H (fun vs H1 => sp vs H1 Q E0)
    congr 1
    funext vs H1
    rw [List.append_nil]
  rw [e2]
  exact q
end
/-! ### repr of plain data -/
mutual
/-- at most so many signs -/
def wt : PyData → Nat
  | .none | .bool _ => 5
  | .int _ => 1921
  | .str x => 10 * x.length + 2
  | .list xs | .tuple xs => wtAll xs + 3
  | .dict _ => 0
def wtAll : List PyData → Nat
  | [] => 0
  | x :: xs => wt x + 2 + wtAll xs
end
mutual
/-- data that can be shown: its ints below 1920 bits -/
def okD : PyData → Bool
  | .none | .bool _ => true
  | .int i => decide (i.natAbs.log2 < 1920)
  | .str x => x.cps.toList.all fun c => decide (c < 16 ^ 8)
  | .list xs | .tuple xs => okAll xs
  | .dict _ => false
def okAll : List PyData → Bool
  | [] => true
  | x :: xs => okD x && okAll xs
end
theorem one_br : (("[" : Str)).length = 1 := rfl
theorem one_br2 : (("]" : Str)).length = 1 := rfl
theorem one_pa : (("(" : Str)).length = 1 := rfl
theorem tup_wt (ts : List Str) : (tupleText ts).length ≤ piled ts + 3 := by
  have e3 : (((if ts.length == 1 then ",)" else ")" : String) : Str)).length ≤ 2 := by split <;> decide +kernel
  unfold tupleText
  rw [strLen_append, strLen_append, one_pa]
  cases ts with
  | nil =>
    have : (Str.join ", " []).length = 0 := by decide +kernel
    omega
  | cons x r =>
    have := join_length_add (x :: r) (List.cons_ne_nil _ _)
    omega
theorem sum_piled : ∀ ts : List Str, (ts.map (·.length)).sum + 2 * ts.length = piled ts
  | [] => rfl
  | t :: ts => by
    have ih := sum_piled ts
    rw [piled_cons, ← ih, List.map_cons, List.sum_cons, List.length_cons]
    omega
theorem lst_wt (ts : List Str) : (listText ts).length ≤ piled ts + 3 := by
  have h := textFrom_len_le ts 0 "["
  have h2 := sum_piled ts
  unfold listText
  rw [strLen_append, one_br2]
  rw [one_br] at h
  omega
mutual
theorem shown_wt : ∀ d : PyData, okD d = true → d.shown.length ≤ wt d ∧ d.showable = true ∧ d.hasDict = false
  | .none, _ => by
    refine ⟨?_, rfl, rfl⟩
    show (("None" : Str)).length ≤ 5
    decide +kernel
  | .bool b, _ => by
    refine ⟨?_, rfl, rfl⟩
    cases b <;> (show _ ≤ 5; decide +kernel)
  | .int i, h => by
    have h1 : i.natAbs.log2 < 1920 := of_decide_eq_true (by simpa only [okD] using h)
    refine ⟨?_, by simpa only [PyData.showable] using decide_eq_true h1, rfl⟩
    have e := int_text_length_le (k := 1920) (by decide) h1
    show (Str.ofString (toString i)).length ≤ 1921
    rw [PySem.ofString_length]
    exact e
  | .str x, h => by
    refine ⟨?_, rfl, rfl⟩
    have h1 : ∀ c ∈ x.cps.toList, c < 16 ^ 8 := fun c hc => of_decide_eq_true (List.all_eq_true.mp (by simpa only [okD] using h) c hc)
    exact StrLaws.reprText_len x h1
  | .list xs, h => by
    obtain ⟨h1, h2, h3⟩ := shown_wtAll xs (by simpa only [okD] using h)
    refine ⟨?_, by simpa only [PyData.showable] using h2, by simpa only [PyData.hasDict] using h3⟩
    simp only [PyData.shown, wt]
    exact Nat.le_trans (lst_wt _) (Nat.add_le_add_right h1 3)
  | .tuple xs, h => by
    obtain ⟨h1, h2, h3⟩ := shown_wtAll xs (by simpa only [okD] using h)
    refine ⟨?_, by simpa only [PyData.showable] using h2, by simpa only [PyData.hasDict] using h3⟩
    simp only [PyData.shown, wt]
    exact Nat.le_trans (tup_wt _) (Nat.add_le_add_right h1 3)
  | .dict _, h => by simp only [okD, Bool.false_eq_true] at h
theorem shown_wtAll : ∀ xs : List PyData, okAll xs = true → piled (PyData.shownAll xs) ≤ wtAll xs ∧ PyData.showableAll xs = true ∧ PyData.hasDictAll xs = false
  | [], _ => ⟨Nat.le_refl _, rfl, rfl⟩
  | x :: xs, h => by
    have h0 : (okD x && okAll xs) = true := by simpa only [okAll] using h
    rw [Bool.and_eq_true] at h0
    obtain ⟨a1, a2, a3⟩ := shown_wt x h0.1
    obtain ⟨b1, b2, b3⟩ := shown_wtAll xs h0.2
    refine ⟨?_, by simp only [PyData.showableAll, a2, b2, Bool.and_self], by simp only [PyData.hasDictAll, a3, b3, Bool.or_self]⟩
    simp only [PyData.shownAll, wtAll]
    rw [piled_cons]
    omega
end
/-- the text of data -/
def rRepr (K : PySem.W.Frag) : List V → Hp → VK → Prop := fun xs H Q => ∃ x d, xs = [x] ∧ Dp K H x d ∧ okD d = true ∧ d.depth ≤ 40 ∧ wt d ≤ 1000000 ∧ Q (.str d.shown) H
section
variable {X : Cx}
theorem call_reprD (hg : X.A.guards = some []) (hu : X.A.units + 64 < cLine) : CallR X (.builtin "repr") (rRepr X.K) := by
  intro pins s σ H xs us Q I r h
  obtain ⟨x, d, rfl, hd, h0, h3, hw, q⟩ := h
  obtain ⟨hz, h1, h2⟩ := shown_wt d h0
  have h4 : d.shown.length ≤ sizeLine := Nat.le_trans hz (Nat.le_trans hw (by decide))
  obtain ⟨u, rfl, hx⟩ := vals1 r
  obtain ⟨as, rd⟩ := Dp.reads I d x u hd hx
  cases hd with
  | non =>
    obtain rfl : u = Value.none := hx
    exact PySem.P.repr_of_none ⟨.str _, H, I.tok _, ⟨_, rfl⟩, q⟩
  | bl b =>
    obtain rfl : u = Value.bool b := hx
    exact PySem.P.repr_of_bool ⟨.str _, H, I.tok _, ⟨_, rfl⟩, q⟩
  | int i =>
    obtain ⟨t, rfl⟩ := hx
    exact PySem.P.repr_of_int (of_decide_eq_true h1) ⟨.str _, H, I.tok _, ⟨_, rfl⟩, q⟩
  | str z =>
    obtain ⟨t, rfl⟩ := hx
    exact PySem.P.repr_of_str ⟨.str _, H, I.tok _, ⟨_, rfl⟩, q⟩ h4
  | lst hs ha =>
    obtain rfl : u = Value.ref _ := hx
    refine repr_of_reads' rd h1 (PyData.noDict_hsm h2) hg (by omega) (fun _ _ z => z) (fun h' u tk hk => ?_) h4
    exact ⟨.str _, H, I.kept (t' := tk) hk, ⟨_, rfl⟩, q⟩
  | tup hs ha =>
    obtain rfl : u = Value.ref _ := hx
    refine repr_of_reads' rd h1 (PyData.noDict_hsm h2) hg (by omega) (fun _ _ z => z) (fun h' u tk hk => ?_) h4
    exact ⟨.str _, H, I.kept (t' := tk) hk, ⟨_, rfl⟩, q⟩
end
/-! ### the law's end -/
section
variable {P : Program} {w : World} {K : PySem.W.Frag} {mg mb : Str → Option Value} {k : Nat} {fa a : Addr} {fd : FuncData} {x : Str} {sp : Sp} {s1 : Shared} {vs : List Value} {ns : List Int}
/-- from a heap H in which at most the script is tracked -/
theorem law_from {H : Hp} (KX : K.In s1.heap) (hns : s1.heap.Ns mainGlobals mg) (hb : s1.heap.Ns builtinsNs mb) (hbb : ∀ x : Str, x ≠ "__name__" → mb x = bootBuiltins x) (hlim : s1.heap.NoLimit) (hg : s1.gens = #[])
    (ha : s1.heap.get? a = some { cls := .type "list", data := .seq vs.toArray }) (hr : Room k callerA) (F : ∀ base : Heap, K.In base → base.Ns mainGlobals mg → FnG P w K mg base k fa fd [x] sp)
    (hbind : ∀ (s : Shared) (u : Value), BindsTo s fd ⟨[u], []⟩ [(x, u)]) (hO : Only H) (hok : HOk P w H s1.heap) (hA : ∀ b, H b ≠ none → b = a) (hK : H a ≠ none → K.lookup a = none)
    (hsp : sp [.ref a] H (fun v _ => v = .bl true) fun _ _ _ => False) :
    codeAny (model P w) callerA (.call (.ref fa) ⟨[.ref a], []⟩) (fun r s' => r = .ok (.ret (.bool true)) ∧ OldK s1.heap s'.heap ∧ s'.os = s1.os ∧ AllBare s'.gens) s1 := by
  have untr : ∀ {b : Addr} {o : Obj} {es : Array DictEntry} {ep : Nat}, s1.heap.get? b = some o → o.data = .dict es ep → H b = none := by
    intro b o es ep e d
    cases q : H b with
    | none => rfl
    | some u =>
      obtain rfl : b = a := hA b (by rw [q]; exact Option.some_ne_none u)
      rw [ha] at e
      cases e
      exact absurd (show Data.seq vs.toArray _ = Data.dict es ep from d) (by intro z; cases z)
  have nsH : ∀ {b : Addr} {m : Str → Option Value}, s1.heap.Ns b m → (hidT s1.heap H).Ns b m := by
    rintro b m ⟨o, es, ep, e, d, r⟩
    exact ⟨o, es, ep, hidT_get e (untr e d), d, r⟩
  have inH : K.In (hidT s1.heap H) := by
    intro b o e
    refine hidT_get (KX b o e) ?_
    cases q : H b with
    | none => rfl
    | some u =>
      have hne : H b ≠ none := by rw [q]; exact Option.some_ne_none u
      obtain rfl : b = a := hA b hne
      rw [hK hne] at e
      cases e
  obtain ⟨mc, l1, l2⟩ := hlim
  have md : Mod K mg (hidT s1.heap H) := ⟨inH, nsH hns, ⟨mb, nsH hb, hbb⟩, ⟨mc, nsH l1, l2⟩⟩
  have e0 : Env0 P w K mg (hidT s1.heap H) callerA [] s1 H := by
    refine ⟨rfl, md, fun b o e => of_hidT e, Nat.le_of_eq (hidT_size _ _), trivial, ?_, hok, .of_eq hg⟩
    intro b hb
    cases (show b ∈ ([] : List Addr) from hb)
  have run := (F _ inH (nsH hns)).goes callerA [] s1 H ⟨[.ref a], []⟩ [.ref a] [.ref a] _ _ rfl hr e0 (hbind s1 (.ref a)) (.cons rfl .nil) hsp
  refine codeAny_mono run fun r s' h => ?_
  match r, h with
  | .error e, h => exact (show False from h).elim
  | .ok (.ret u), ⟨v, H', os, bare, un, hok', r', q⟩ =>
    obtain rfl : v = .bl true := q
    obtain rfl : u = Value.bool true := r'
    refine ⟨rfl, OldK.of_keep ?_, os, bare⟩
    intro b o e
    cases q : H b with
    | none => exact un.keep b o e q (fun z => by cases (show b ∈ ([] : List Addr) from z)) (fun z => by cases z)
    | some u =>
      rcases hO b with z | ⟨ob, xs, z⟩
      · rw [q] at z
        cases z
      · have k1 := (hok b _ z).1
        have k2 := (hok' b _ (un.frzs b ob _ z)).1
        rw [e] at k1
        cases k1
        exact k2
theorem law_g (KX : K.In s1.heap) (hns : s1.heap.Ns mainGlobals mg) (hb : s1.heap.Ns builtinsNs mb) (hbb : ∀ x : Str, x ≠ "__name__" → mb x = bootBuiltins x) (hlim : s1.heap.NoLimit) (hg : s1.gens = #[])
    (ha : s1.heap.get? a = some { cls := .type "list", data := .seq vs.toArray }) (hi : IntsAre vs ns) (hl : ns.length ≤ sizeLine) (hr : Room k callerA) (F : ∀ base : Heap, K.In base → base.Ns mainGlobals mg → FnG P w K mg base k fa fd [x] sp)
    (hbind : ∀ (s : Shared) (u : Value), BindsTo s fd ⟨[u], []⟩ [(x, u)]) (hsp : ∀ H : Hp, Only H → SqL K H a (ns.map V.int) → sp [.ref a] H (fun v _ => v = .bl true) fun _ _ _ => False) :
    codeAny (model P w) callerA (.call (.ref fa) ⟨[.ref a], []⟩) (fun r s' => r = .ok (.ret (.bool true)) ∧ OldK s1.heap s'.heap ∧ s'.os = s1.os ∧ AllBare s'.gens) s1 := by
  have rv := vals_ints hi
  have lv := hi.length
  cases hk : K.lookup a with
  | some o =>
    have e := KX a o hk
    rw [ha] at e
    cases e
    refine law_from (H := fun _ => none) KX hns hb hbb hlim hg ha hr F hbind (fun _ => Or.inl rfl) (fun b u z => ?_) (fun b z => absurd rfl z) (fun z => absurd rfl z) (hsp _ (fun _ => Or.inl rfl) (Or.inr ?_))
    · cases (show (none : Option HO) = some u from z)
    · exact ⟨_, vs.toArray, _, hk, rfl, rfl, rfl, by rw [List.size_toArray, lv]; exact hl, by simpa using rv⟩
  | none =>
    let ob : Obj := { cls := .type "list", data := .seq vs.toArray }
    have one : ∀ b, (if b = a then some (HO.frz ob (.lst (ns.map V.int))) else none) ≠ none → b = a := fun b z => by
      by_cases hb : b = a
      · exact hb
      · exact absurd (if_neg hb) z
    have only : Only (fun b => if b = a then some (HO.frz ob (.lst (ns.map V.int))) else none) := fun b => by
      by_cases hb : b = a
      · exact Or.inr ⟨_, _, if_pos hb⟩
      · exact Or.inl (if_neg hb)
    refine law_from (H := fun b => if b = a then some (HO.frz ob (.lst (ns.map V.int))) else none) KX hns hb hbb hlim hg ha hr F hbind only (fun b u z => ?_) one (fun _ => hk) (hsp _ only (Or.inl (Or.inr ⟨ob, if_pos rfl⟩)))
    by_cases hb : b = a
    · obtain rfl := Option.some.inj ((if_pos hb).symm.trans z)
      subst hb
      exact ⟨ha, by rw [List.length_map]; exact hl, vs, _, rv, ha⟩
    · cases (if_neg hb).symm.trans z
end
theorem walk_g {l : PySem.W.OpenLaw} {n k : Nat} {q : Program} {loose : List Str} {XP : (Str → Option Value) → Heap → Prop} {YP : World → Heap → Prop} {d : DefRec} {K : Params → PySem.W.Frag} {sp : PySem.W.Frag → Sp} {x : Str}
    (hn : l.most = some n) (hn2 : n ≤ sizeLine) (hdf : d.params.defaults = []) (hr : Room k callerA) (hY : ∀ (w : World) (h : Heap), YP w h → (K w.params).In h)
    (F : ∀ (w : World) (mg : Str → Option Value) (fa : Addr) (h : Heap), (K w.params).In h → h.Ns mainGlobals mg → mg d.name = some (.ref fa) → ∃ fd : FuncData, (∀ (s : Shared) (u : Value), BindsTo s fd ⟨[u], []⟩ [(x, u)]) ∧
        ∀ base : Heap, (K w.params).In base → base.Ns mainGlobals mg → FnG l.prog w (K w.params) mg base k fa fd [x] (sp (K w.params)))
    (hsp : ∀ (K : PySem.W.Frag) (H : Hp) (a : Addr) (ns : List Int), ns.length ≤ n → SqL K H a (ns.map V.int) → sp K [.ref a] H (fun v _ => v = .bl true) fun _ _ _ => False) :
    PySem.W.WalkO q loose XP YP l.row.toRowW d [] (fun f vs => PySem.call f vs) := by
  refine Att.attach_call hn hdf fun w s0 s1 mg mb fa o pm cd doc a vs ns G Y ho hd hcd hmg hobj hints hlen hg => ?_
  obtain ⟨fd, hb, hF⟩ := F w mg fa _ (hY w _ Y) G.T.g hmg
  exact law_g (hY w _ Y) G.T.g G.T.b G.T.builtins G.T.nolimit hg hobj hints (Nat.le_trans hlen hn2) hr hF hb fun H _ hS => hsp (K w.params) H a ns hlen hS
end Gd
set_option Elab.async false
set_option linter.all false
set_option maxRecDepth 100000
/-! Common words: sizes of ints, heaps that grow, defs of the text by their names. -/
namespace Gd
open PySem PySem.Spec PyProof.Rows L2
/-! ### sizes -/
def B (n : Nat) (x : Int) : Prop := x.natAbs < 2 ^ n
theorem B.up {m n : Nat} {x : Int} (h : B m x) (k : m ≤ n) : B n x := Nat.lt_of_lt_of_le h (Nat.pow_le_pow_right (by decide) k)
theorem B.add {m n : Nat} {x y : Int} (hx : B m x) (hy : B n y) : B (max m n + 1) (x + y) := by
  have h1 : x.natAbs < 2 ^ max m n := hx.up (Nat.le_max_left m n)
  have h2 : y.natAbs < 2 ^ max m n := hy.up (Nat.le_max_right m n)
  unfold B
  rw [Nat.pow_succ]
  omega
theorem B.neg {n : Nat} {x : Int} (hx : B n x) : B n (-x) := by
  unfold B at *
  omega
theorem B.sub {m n : Nat} {x y : Int} (hx : B m x) (hy : B n y) : B (max m n + 1) (x - y) := by
  rw [Int.sub_eq_add_neg]
  exact hx.add hy.neg
theorem B.mul {m n : Nat} {x y : Int} (hx : B m x) (hy : B n y) : B (m + n) (x * y) := wide_lt hx hy
theorem B.pow {m : Nat} {x : Int} (hx : B m x) : ∀ k : Nat, B (m * k + 1) (x ^ k)
  | 0 => by
    rw [Int.pow_zero]
    exact Nat.one_lt_two_pow (by omega)
  | k + 1 => by
    rw [Int.pow_succ]
    exact ((B.pow hx k).mul hx).up (by rw [Nat.mul_succ]; omega)
theorem B.lit {n : Nat} {x : Int} (h : x.natAbs < 2 ^ n) : B n x := h
theorem B.mulW {m n : Nat} {x y : Int} (hx : B m x) (hy : B n y) (h : m + n ≤ 900000) : CMulW x y :=
  wide_mul (hx.up (Nat.le_add_right m 1)) (hy.up (Nat.le_add_right n 1)) (by omega) (by omega) (by omega)
theorem B.mulL {n : Nat} {x y : Int} (hx : B n x) (h : n ≤ 64) : CMul x y := by
  have h1 := hx.up h
  unfold B at h1
  exact Or.inl ⟨by omega, by omega⟩
theorem B.mulR {n : Nat} {x y : Int} (hy : B n y) (h : n ≤ 64) : CMul x y := by
  have h1 := hy.up h
  unfold B at h1
  exact Or.inr ⟨by omega, by omega⟩
theorem B.log {n : Nat} {x : Int} (hx : B n x) (h : n ≤ 1900) : x.natAbs.log2 < 1920 := by
  have h1 : x.natAbs < 2 ^ 1901 := hx.up (by omega)
  exact PySem.Flt.log2_lt_of (by decide) (Nat.lt_of_lt_of_le h1 (Nat.pow_le_pow_right (by decide) (by decide)))
theorem B.between {n : Nat} {x : Int} (m : Int) (h0 : -m ≤ x) (h1 : x ≤ m) (h : m.natAbs < 2 ^ n) : B n x := by
  unfold B
  omega
theorem small {n : Nat} (h : n ≤ 1000) : n ≤ sizeLine := Nat.le_trans h (by decide)
/-! ### heaps -/
theorem Same.new {H : Hp} {p : Addr} {o : HO} (h : H p = none) : Same H (upd H p o) := fun b x e => by
  rw [upd_ne (ne_of_none e h)]
  exact e
theorem Same.put {H H1 : Hp} {p : Addr} {o : HO} (s : Same H H1) (h : H p = none) : Same H (upd H1 p o) := fun b x e => by
  rw [upd_ne (ne_of_none e h)]
  exact s b x e
theorem Same.rd {H H' : Hp} {a : Addr} {u : HO} (e : Same H H') (h : Rd H a u) : Rd H' a u := by
  rcases h with h | ⟨o, h⟩
  · exact Or.inl (e _ _ h)
  · exact Or.inr ⟨o, e _ _ h⟩
theorem Same.tup {K : PySem.W.Frag} {H H' : Hp} {a : Addr} {xs : List V} (e : Same H H') (h : SqT K H a xs) : SqT K H' a xs := by
  rcases h with h | h
  · exact Or.inl (Same.rd e h)
  · exact Or.inr h
theorem tup_of {K : PySem.W.Frag} {H : Hp} {a : Addr} {xs : List V} (h : H a = some (.tup xs)) : SqT K H a xs := Or.inl (Or.inl h)
theorem lst_of {K : PySem.W.Frag} {H : Hp} {a : Addr} {xs : List V} (h : H a = some (.lst xs)) : SqL K H a xs := Or.inl (Or.inl h)
/-- all but what stands at m is as it was -/
def But (m : Addr) (H H' : Hp) : Prop := ∀ b o, H b = some o → b ≠ m → H' b = some o
theorem But.refl (m : Addr) (H : Hp) : But m H H := fun _ _ e _ => e
theorem But.trans {m : Addr} {H H1 H2 : Hp} (a : But m H H1) (b : But m H1 H2) : But m H H2 := fun c o e n => b c o (a c o e n) n
theorem But.of {m : Addr} {H H' : Hp} (a : Same H H') : But m H H' := fun c o e _ => a c o e
theorem But.upd {m : Addr} {H : Hp} {o : HO} : But m H (upd H m o) := fun c x e n => by
  rw [upd_ne n]
  exact e
/-- the same where m was not known -/
theorem But.same {m : Addr} {H H1 H2 : Hp} (s : Same H H1) (b : But m H1 H2) (h : H m = none) : Same H H2 := fun c o e => b c o (s c o e) (ne_of_none e h)
/-- the slots said anew -/
theorem sig {nx : L2.St → Hp → Prop} {σ : L2.St} {H : Hp} (σ' : L2.St) (e : σ = σ') (h : nx σ' H) : nx σ H := e ▸ h
theorem sigN {nx : L2.St → Hp → Prop} {i : Nat} {v : V} {σ : L2.St} {H : Hp} (σ' : L2.St) (e : σ.set i (some v) = σ') (h : nx σ' H) : gName i v σ H nx := by
  subst e
  exact h
/-- a number of the module -/
theorem pe_kon {X : Cx} {x : Str} {pos : Pos} {v : V} (hg : Gl X x) (h : ∃ u, X.mg x = some u ∧ RelV v u) (hd : (x == ("__debug__" : Str)) = false := by decide) : PE X (.Name x pos) (tC v) := by
  obtain ⟨u, hm, r⟩ := h
  exact pe_glob hg hm r hd
/-- int(n) of a number -/
theorem call_intI {X : Cx} : CallR X (.type "int") (fun xs H Q => ∃ i, xs = [.int i] ∧ Q (.int i) H) := fun pins s σ H xs us Q I r h => call_int1 pins s σ H xs us Q I r (Or.inl h)
/-! ### the state of the draws: four entries -/
def mk4 (L s : Int) (c : Addr) (n : Int) : List (Key × V) := [(Sum.inr "left", .int L), (Sum.inr "seed", .int s), (Sum.inr "cells", .ref c), (Sum.inr "spot", .int n)]
theorem kn12 : ¬ (("left" : Str) = "seed") := by decide +kernel
theorem kn13 : ¬ (("left" : Str) = "cells") := by decide +kernel
theorem kn14 : ¬ (("left" : Str) = "spot") := by decide +kernel
theorem kn23 : ¬ (("seed" : Str) = "cells") := by decide +kernel
theorem kn24 : ¬ (("seed" : Str) = "spot") := by decide +kernel
theorem kn34 : ¬ (("cells" : Str) = "spot") := by decide +kernel
theorem kn21 : ¬ (("seed" : Str) = "left") := by decide +kernel
theorem kn31 : ¬ (("cells" : Str) = "left") := by decide +kernel
theorem kn41 : ¬ (("spot" : Str) = "left") := by decide +kernel
theorem kn42 : ¬ (("spot" : Str) = "seed") := by decide +kernel
theorem kn43 : ¬ (("spot" : Str) = "cells") := by decide +kernel
theorem kn32 : ¬ (("cells" : Str) = "seed") := by decide +kernel
section
variable {L s n : Int} {c : Addr}
theorem m4_left : valV (mk4 L s c n) (Sum.inr "left") = some (.int L) := by simp [valV, mk4, List.find?_cons]
theorem m4_seed : valV (mk4 L s c n) (Sum.inr "seed") = some (.int s) := by simp [valV, mk4, List.find?_cons, kn12]
theorem m4_cells : valV (mk4 L s c n) (Sum.inr "cells") = some (.ref c) := by simp [valV, mk4, List.find?_cons, kn13, kn23]
theorem m4_spot : valV (mk4 L s c n) (Sum.inr "spot") = some (.int n) := by simp [valV, mk4, List.find?_cons, kn14, kn24, kn34]
theorem m4_putL (y : Int) : putK (mk4 L s c n) (Sum.inr "left") (.int y) = mk4 y s c n := by simp [putK, mk4, kn21, kn31, kn41]
theorem m4_merge : mergeK [] (mk4 L s c n) = mk4 L s c n := by simp [mergeK, putK, mk4, List.foldl, kn12, kn13, kn14, kn23, kn24, kn34]
theorem m4_putS (y : Int) : putK (mk4 L s c n) (Sum.inr "spot") (.int y) = mk4 L s c y := by simp [putK, mk4, kn14, kn24, kn34]
end
/-- the state stands at m, with at most n draws out of the cells behind it -/
def MAt (H : Hp) (m c : Addr) (n : Nat) : Prop := ∃ (L s : Int) (cs : List Int) (k : Nat), H m = some (.dK (mk4 L s c (k : Int))) ∧ k ≤ n ∧ H c = some (.lst (cs.map V.int)) ∧ 0 < cs.length
theorem MAt.up {H : Hp} {m cl : Addr} {n n' : Nat} (h : MAt H m cl n) (k : n ≤ n') : MAt H m cl n' := by
  obtain ⟨L, s, cs, j, h1, h2, h3, h4⟩ := h
  exact ⟨L, s, cs, j, h1, Nat.le_trans h2 k, h3, h4⟩
theorem MAt.same {H H' : Hp} {m cl : Addr} {n : Nat} (h : MAt H m cl n) (e : Same H H') : MAt H' m cl n := by
  obtain ⟨L, s, cs, j, h1, h2, h3, h4⟩ := h
  exact ⟨L, s, cs, j, e _ _ h1, h2, e _ _ h3, h4⟩
theorem MAt.some {H : Hp} {m cl : Addr} {n : Nat} (h : MAt H m cl n) : ∃ kvs, H m = some (.dK kvs) := by
  obtain ⟨L, s, cs, j, h1, _⟩ := h
  exact ⟨_, h1⟩
theorem MAt.ne {H : Hp} {m cl p : Addr} {n : Nat} (h : MAt H m cl n) (e : H p = none) : m ≠ p ∧ cl ≠ p := by
  obtain ⟨L, s, cs, j, h1, h2, h3, h4⟩ := h
  exact ⟨ne_of_none h1 e, ne_of_none h3 e⟩
theorem MAt.put {H : Hp} {m cl p : Addr} {n : Nat} {o : HO} (h : MAt H m cl n) (e : m ≠ p ∧ cl ≠ p) : MAt (upd H p o) m cl n := by
  obtain ⟨L, s, cs, j, h1, h2, h3, h4⟩ := h
  refine ⟨L, s, cs, j, ?_, h2, ?_, h4⟩
  · rw [upd_ne e.1]
    exact h1
  · rw [upd_ne e.2]
    exact h3
/-- what the draws leave: fresh stays fresh -/
theorem But.free {m p cl : Addr} {H H' : Hp} {n : Nat} (b : But m H H') (h : MAt H' m cl n) (e : H' p = none) : H p = none := by
  obtain ⟨kvs, hm⟩ := h.some
  cases q : H p with
  | none => rfl
  | some o =>
    by_cases hp : p = m
    · subst hp
      rw [hm] at e
      cases e
    · rw [b p o q hp] at e
      cases e
theorem But.tup {m p cl : Addr} {H H' : Hp} {n : Nat} {xs : List V} (b : But m H H') (h : MAt H m cl n) (e : H p = some (.tup xs)) : H' p = some (.tup xs) := by
  obtain ⟨kvs, hm⟩ := h.some
  exact b p _ e (ne_of e hm (by intro z; cases z))
theorem But.lst {m p cl : Addr} {H H' : Hp} {n : Nat} {xs : List V} (b : But m H H') (h : MAt H m cl n) (e : H p = some (.lst xs)) : H' p = some (.lst xs) := by
  obtain ⟨kvs, hm⟩ := h.some
  exact b p _ e (ne_of e hm (by intro z; cases z))
theorem But.seqL {K : PySem.W.Frag} {m p cl : Addr} {H H' : Hp} {n : Nat} {xs : List V} (b : But m H H') (h : MAt H m cl n) (e : SqL K H p xs) : SqL K H' p xs := by
  obtain ⟨kvs, hm⟩ := h.some
  rcases e with (e | ⟨o, e⟩) | e
  · exact Or.inl (Or.inl (b p _ e (ne_of e hm (by intro z; cases z))))
  · exact Or.inl (Or.inr ⟨o, b p _ e (ne_of e hm (by intro z; cases z))⟩)
  · exact Or.inr e
theorem But.seqT {K : PySem.W.Frag} {m p cl : Addr} {H H' : Hp} {n : Nat} {xs : List V} (b : But m H H') (h : MAt H m cl n) (e : SqT K H p xs) : SqT K H' p xs := by
  obtain ⟨kvs, hm⟩ := h.some
  rcases e with (e | ⟨o, e⟩) | e
  · exact Or.inl (Or.inl (b p _ e (ne_of e hm (by intro z; cases z))))
  · exact Or.inl (Or.inr ⟨o, b p _ e (ne_of e hm (by intro z; cases z))⟩)
  · exact Or.inr e
/-! ### tuples -/
theorem catA_any {K : PySem.W.Frag} {H : Hp} {Q : VK} {a b : Addr} {xs ys : List V} (ha : SqT K H a xs) (hb : SqT K H b ys) (hl : xs.length + ys.length ≤ 1000) (k : ∀ p H', Same H H' → SqT K H' p (xs ++ ys) → Q (.ref p) H') : rCatA K (.ref a) (.ref b) H Q := by
  refine ⟨a, b, xs, ys, rfl, rfl, ha, hb, small hl, fun e => ?_, fun _ e => ?_, fun _ _ p hp => k p _ (Same.new hp) (tup_of upd_same)⟩
  · subst e
    exact k b H (Same.refl H) hb
  · subst e
    exact k a H (Same.refl H) (by rw [List.append_nil]; exact ha)
theorem slA_any {K : PySem.W.Frag} {H : Hp} {Q : VK} {a : Addr} {xs : List V} {lo hi : Option Int} (ha : SqT K H a xs) (k : ∀ p H', Same H H' → SqT K H' p (cutV xs lo hi) → Q (.ref p) H') : rSlA K (.ref a) lo hi H Q := by
  refine ⟨a, xs, rfl, ha, fun e => ?_, fun _ p hp => k p _ (Same.new hp) (tup_of upd_same)⟩
  refine k a H (Same.refl H) ?_
  have e2 : cutV xs lo hi = xs := by
    unfold cutV
    rw [e.1, e.2, List.drop_zero, Nat.sub_zero, List.take_length]
  rw [e2]
  exact ha
/-! ### defs by their names -/
structure Df (K : PySem.W.Frag) (mg : Str → Option Value) (x : Str) (st : Stmt) (ps : List Str) : Prop where
  ex : ∃ (f : Addr) (fd : FuncData), Fun K x x st f fd ∧ mg x = some (.ref f) ∧ Binds K fd ps []
section
variable {P : Program} {w : World} {K : PySem.W.Frag} {mg : Str → Option Value} {base : Heap} {x : Str} {st : Stmt} {N ps : List Str} {k : Nat} {sp : Sp}
theorem Kl.by_body (D : Df K mg x st ps) (S : FnScope N ps (defScope st)) (len : ∀ vs H Q E, sp vs H Q E → vs.length = ps.length)
    (hb : ∀ (f : Addr) (cdv : Value) (A : Around) (outer : List Env) (s : Shared) (H : Hp) (vs : List V) (Q : VK) (E : XK), Room k (A.deeper (envOfC x (defScope st) s.heap.objs.size f cdv)) → sp vs H Q E →
      ∃ t, PSs (cxOf CX0 P w K mg base N x (defScope st) f cdv A outer s H E).nox (defBody st) t ∧ t { nx := fun _ H' => Q .non H', rt := Q } (start N vs) H) : Kl P w K mg base (k + 1) x sp := by
  obtain ⟨f, fd, F, hm, b⟩ := D.ex
  exact ⟨f, fd, ps, F.ok S len (hb f), hm, F.kp, b⟩
theorem Kg.by_body (D : Df K mg x st ps) (S : FnScope N ps (defScope st)) (len : ∀ vs H Q E, sp vs H Q E → vs.length = ps.length)
    (hb : ∀ (f : Addr) (cdv : Value) (A : Around) (outer : List Env) (s : Shared) (H : Hp) (vs : List V) (Q : VK) (E : XK), A.guards = some [] → Room k (A.deeper (envOfC x (defScope st) s.heap.objs.size f cdv)) → sp vs H Q E →
      ∃ t, PSs (cxOf CX0 P w K mg base N x (defScope st) f cdv A outer s H E).nox (defBody st) t ∧ t { nx := fun _ H' => Q .non H', rt := Q } (start N vs) H) : Kg P w K mg base (k + 1) x sp := by
  obtain ⟨f, fd, F, hm, b⟩ := D.ex
  exact ⟨f, fd, ps, FnG.by_body F S len (hb f), hm, F.kp, b⟩
theorem df_mk {h : Heap} {f : Addr} {oc : Value} {od an : Option Addr} {osl : Array (Option Value)} {kV doc pm cdv ct : Value} (X : K.In h) (G : h.Ns mainGlobals mg) (a : PySem.W.nsIn K mainGlobals x = some (some (.ref f)))
    (l : K.lookup f = some ⟨oc, od, .func (PySem.W.fnOf x x (defArgs st) (defBody st) (defScope st) .none kV doc pm an cdv ct), osl⟩) (c : PySem.W.codeIn K cdv x = true) (kp : PySem.W.keepIn K (.ref f) = true)
    (hb : ∀ (kV doc pm : Value) (an : Option Addr) (cdv ct : Value) (us : List Value), us.length = ps.length → bindArgs (PySem.W.fnOf x x (defArgs st) (defBody st) (defScope st) .none kV doc pm an cdv ct) ⟨us, []⟩ = pure (ps.zip us)) : Df K mg x st ps :=
  ⟨f, _, fun_mk l c kp, PySem.W.mg_of X G a, (fun_mk l c kp).binds hb⟩
theorem law_fd {h : Heap} {fa f : Addr} {j : Nat} {oc : Value} {od an : Option Addr} {osl : Array (Option Value)} {kV doc pm cdv ct : Value} (X : K.In h) (G : h.Ns mainGlobals mg) (hfa : mg "law" = some (.ref fa)) (a : PySem.W.nsIn K mainGlobals "law" = some (some (.ref f)))
    (l : K.lookup f = some ⟨oc, od, .func (PySem.W.fnOf "law" "law" (defArgs st) (defBody st) (defScope st) .none kV doc pm an cdv ct), osl⟩) (c : PySem.W.codeIn K cdv "law" = true) (kp : PySem.W.keepIn K (.ref f) = true)
    (hb : ∀ (kV doc pm : Value) (an : Option Addr) (cdv ct : Value) (us : List Value), us.length = 1 → bindArgs (PySem.W.fnOf "law" "law" (defArgs st) (defBody st) (defScope st) .none kV doc pm an cdv ct) ⟨us, []⟩ = pure ((["script"] : List Str).zip us))
    (go : ∀ fd, Fun K "law" "law" st fa fd → ∀ base : Heap, FnG P w K mg base j fa fd ["script"] sp) :
    ∃ fd : FuncData, (∀ (s : Shared) (u : Value), BindsTo s fd ⟨[u], []⟩ [("script", u)]) ∧ ∀ base : Heap, K.In base → base.Ns mainGlobals mg → FnG P w K mg base j fa fd ["script"] sp := by
  have e := hfa.symm.trans (PySem.W.mg_of X G a)
  cases e
  exact ⟨_, fun s u => .of_eq (hb kV doc pm an cdv ct [u] rfl), fun base _ _ => go _ (fun_mk l c kp) base⟩
end
end Gd
set_option linter.all false
/-! fractions: plain Lean -/
namespace QM
/-- n / d in lowest terms -/
def sg (n d : Int) : Int := if d < 0 then -((Nat.gcd n.natAbs d.natAbs : Nat) : Int) else ((Nat.gcd n.natAbs d.natAbs : Nat) : Int)
theorem sg_ne {n d : Int} (h : d ≠ 0) : sg n d ≠ 0 := by
  have hp : 0 < Nat.gcd n.natAbs d.natAbs := Nat.gcd_pos_of_pos_right _ (by omega)
  unfold sg
  split <;> omega
theorem fdiv_neg' (a b : Int) : (-a).fdiv (-b) = a.fdiv b := by
  exact Int.neg_fdiv_neg a b
theorem fr_num {n d : Int} (h : d ≠ 0) : n.fdiv (sg n d) = (Rat.divInt n d).num := by
  rw [Rat.num_divInt]
  unfold sg
  have g0 : ((Int.gcd d n : Nat) : Int) = ((Nat.gcd n.natAbs d.natAbs : Nat) : Int) := by rw [Int.gcd_comm]; rfl
  split
  · rename_i e
    rw [Int.sign_eq_neg_one_of_neg e, g0, Int.neg_mul, Int.one_mul]
    have e1 : n.fdiv (-((Nat.gcd n.natAbs d.natAbs : Nat) : Int)) = (-n).fdiv ((Nat.gcd n.natAbs d.natAbs : Nat) : Int) := by
      rw [← fdiv_neg' n, Int.neg_neg]
    rw [e1, Int.fdiv_eq_ediv_of_nonneg _ (by omega)]
  · rename_i e
    rw [Int.sign_eq_one_of_pos (by omega), g0, Int.one_mul, Int.fdiv_eq_ediv_of_nonneg _ (by omega)]
theorem fr_den {n d : Int} (h : d ≠ 0) : d.fdiv (sg n d) = ((Rat.divInt n d).den : Int) := by
  rw [Rat.den_divInt, if_neg h]
  have g0 : Int.gcd d n = Nat.gcd n.natAbs d.natAbs := by rw [Int.gcd_comm]; rfl
  rw [g0]
  unfold sg
  split
  · rename_i e
    have e1 : d.fdiv (-((Nat.gcd n.natAbs d.natAbs : Nat) : Int)) = (-d).fdiv ((Nat.gcd n.natAbs d.natAbs : Nat) : Int) := by
      rw [← fdiv_neg' d, Int.neg_neg]
    rw [e1, Int.fdiv_eq_ediv_of_nonneg _ (by omega), Int.natCast_ediv]
    congr 1
    omega
  · rename_i e
    rw [Int.fdiv_eq_ediv_of_nonneg _ (by omega), Int.natCast_ediv]
    congr 1
    omega
theorem den_ne (a : Rat) : (a.den : Int) ≠ 0 := by
  have := a.den_nz
  omega
theorem denR (a : Rat) : ((a.den : Int) : Rat) ≠ 0 := by
  intro h
  exact den_ne a (by exact_mod_cast h)
theorem as_div (a : Rat) : a = (a.num : Rat) / ((a.den : Int) : Rat) := by
  rw [← Rat.divInt_eq_div, Rat.num_divInt_den]
theorem fr_add (a b : Rat) : Rat.divInt (a.num * b.den + b.num * a.den) (a.den * b.den) = a + b := by
  have ha := denR a
  have hb := denR b
  have ea := as_div a
  have eb := as_div b
  rw [Rat.divInt_eq_div, Rat.intCast_add, Rat.intCast_mul, Rat.intCast_mul, Rat.intCast_mul]
  grind
theorem fr_sub (a b : Rat) : Rat.divInt (a.num * b.den - b.num * a.den) (a.den * b.den) = a - b := by
  have ha := denR a
  have hb := denR b
  have ea := as_div a
  have eb := as_div b
  rw [Rat.divInt_eq_div, Rat.intCast_sub, Rat.intCast_mul, Rat.intCast_mul, Rat.intCast_mul]
  grind
theorem fr_mul (a b : Rat) : Rat.divInt (a.num * b.num) (a.den * b.den) = a * b := by
  have ha := denR a
  have hb := denR b
  have ea := as_div a
  have eb := as_div b
  rw [Rat.divInt_eq_div, Rat.intCast_mul, Rat.intCast_mul]
  grind
theorem num_ne {a : Rat} (h : a ≠ 0) : a.num ≠ 0 := fun e => h (Rat.num_eq_zero.mp e)
theorem fr_div (a b : Rat) (h : b ≠ 0) : Rat.divInt (a.num * b.den) (a.den * b.num) = a / b := by
  have ha := denR a
  have hb := denR b
  have ea := as_div a
  have eb := as_div b
  have hn : (b.num : Rat) ≠ 0 := fun e => num_ne h (by exact_mod_cast e)
  rw [Rat.divInt_eq_div, Rat.intCast_mul, Rat.intCast_mul]
  grind
theorem mul_ne {a b : Int} (h : a ≠ 0) (k : b ≠ 0) : a * b ≠ 0 := Int.mul_ne_zero h k
/-! sizes -/
def RB (n : Nat) (q : Rat) : Prop := q.num.natAbs < 2 ^ n ∧ (q.den : Int).natAbs < 2 ^ n
theorem RB.up {m n : Nat} {q : Rat} (h : RB m q) (k : m ≤ n) : RB n q := ⟨Nat.lt_of_lt_of_le h.1 (Nat.pow_le_pow_right (by decide) k), Nat.lt_of_lt_of_le h.2 (Nat.pow_le_pow_right (by decide) k)⟩
theorem dv_le {x g : Int} (h : g ≠ 0) (d : g ∣ x) : (x.fdiv g).natAbs ≤ x.natAbs := by
  obtain ⟨k, rfl⟩ := d
  rw [Int.mul_fdiv_cancel_left k h, Int.natAbs_mul]
  have h1 : 1 ≤ g.natAbs := by omega
  have h2 : 1 * k.natAbs ≤ g.natAbs * k.natAbs := Nat.mul_le_mul_right _ h1
  omega
theorem sg_dvd (n d : Int) : sg n d ∣ n := by
  have h : ((Nat.gcd n.natAbs d.natAbs : Nat) : Int) ∣ n := Int.ofNat_dvd_left.mpr (Nat.gcd_dvd_left _ _)
  unfold sg
  split
  · exact Int.neg_dvd.mpr h
  · exact h
theorem sg_dvd2 (n d : Int) : sg n d ∣ d := by
  have h : ((Nat.gcd n.natAbs d.natAbs : Nat) : Int) ∣ d := Int.ofNat_dvd_left.mpr (Nat.gcd_dvd_right _ _)
  unfold sg
  split
  · exact Int.neg_dvd.mpr h
  · exact h
theorem RB.of {m : Nat} {n d : Int} (h : d ≠ 0) (hn : n.natAbs < 2 ^ m) (hd : d.natAbs < 2 ^ m) : RB m (Rat.divInt n d) := by
  unfold RB
  rw [← fr_num h, ← fr_den (n := n) h]
  exact ⟨Nat.lt_of_le_of_lt (dv_le (sg_ne h) (sg_dvd n d)) hn, Nat.lt_of_le_of_lt (dv_le (sg_ne h) (sg_dvd2 n d)) hd⟩
theorem pmul {m n a b : Nat} (ha : a < 2 ^ m) (hb : b < 2 ^ n) : a * b < 2 ^ (m + n) := by
  rw [Nat.pow_add]
  rcases Nat.eq_zero_or_pos b with h | h
  · subst h
    rw [Nat.mul_zero]
    exact Nat.mul_pos (Nat.two_pow_pos m) (Nat.two_pow_pos n)
  · exact Nat.mul_lt_mul_of_lt_of_le ha (Nat.le_of_lt hb) (Nat.two_pow_pos n)
theorem RB.add {m n : Nat} {a b : Rat} (ha : RB m a) (hb : RB n b) : RB (m + n + 1) (a + b) := by
  rw [← fr_add]
  have h1 := pmul ha.1 hb.2
  have h2 := pmul ha.2 hb.1
  have h3 := pmul ha.2 hb.2
  refine RB.of (mul_ne (den_ne a) (den_ne b)) ?_ ?_
  · rw [Nat.pow_succ]
    have h4 : (a.num * ↑b.den + b.num * ↑a.den).natAbs ≤ (a.num * ↑b.den).natAbs + (b.num * ↑a.den).natAbs := Int.natAbs_add_le _ _
    rw [Int.natAbs_mul, Int.natAbs_mul, Nat.mul_comm b.num.natAbs] at h4
    omega
  · rw [Nat.pow_succ, Int.natAbs_mul]
    omega
theorem RB.neg {m : Nat} {a : Rat} (ha : RB m a) : RB m (-a) := by
  unfold RB at *
  rw [Rat.neg_num, Rat.neg_den, Int.natAbs_neg]
  exact ha
theorem RB.sub {m n : Nat} {a b : Rat} (ha : RB m a) (hb : RB n b) : RB (m + n + 1) (a - b) := by
  rw [Rat.sub_eq_add_neg]
  exact ha.add hb.neg
theorem RB.mul {m n : Nat} {a b : Rat} (ha : RB m a) (hb : RB n b) : RB (m + n) (a * b) := by
  rw [← fr_mul]
  refine RB.of (mul_ne (den_ne a) (den_ne b)) ?_ ?_
  · rw [Int.natAbs_mul]
    exact pmul ha.1 hb.1
  · rw [Int.natAbs_mul]
    exact pmul ha.2 hb.2
theorem RB.div {m n : Nat} {a b : Rat} (h : b ≠ 0) (ha : RB m a) (hb : RB n b) : RB (m + n) (a / b) := by
  rw [← fr_div a b h]
  refine RB.of (mul_ne (den_ne a) (num_ne h)) ?_ ?_
  · rw [Int.natAbs_mul]
    exact pmul ha.1 hb.2
  · rw [Int.natAbs_mul]
    exact pmul ha.2 hb.1
theorem RB.int {m : Nat} {n : Int} (h : n.natAbs < 2 ^ m) (k : 1 ≤ m) : RB m (n : Rat) := by
  unfold RB
  rw [Rat.num_intCast, Rat.den_intCast]
  exact ⟨h, Nat.lt_of_lt_of_le (by decide : 1 < 2 ^ 1) (Nat.pow_le_pow_right (by decide) k)⟩
theorem RB.pow {m : Nat} {a : Rat} (ha : RB m a) : ∀ k : Nat, RB (m * k + 1) (a ^ k)
  | 0 => by
    rw [Rat.pow_zero]
    exact RB.int (n := 1) (by rw [Nat.mul_zero]; decide) (by omega)
  | k + 1 => by
    rw [Rat.pow_succ]
    exact (RB.mul (RB.pow ha k) ha).up (by rw [Nat.mul_succ]; omega)
/-! powers -/
theorem npow (a : Rat) (k : Nat) : (a ^ k).num = a.num ^ k := Rat.num_pow a k
theorem dpow (a : Rat) (k : Nat) : (a ^ k).den = a.den ^ k := Rat.den_pow a k
theorem le_npow (a : Nat) {k : Nat} (h : 1 ≤ k) : a ≤ a ^ k := by
  rcases Nat.eq_zero_or_pos a with e | e
  · omega
  · calc a = a ^ 1 := (Nat.pow_one a).symm
      _ ≤ a ^ k := Nat.pow_le_pow_right e h
theorem RB.root {m k : Nat} {a : Rat} (h : 1 ≤ k) (ha : RB m (a ^ k)) : RB m a := by
  unfold RB at *
  rw [npow, dpow, Int.natAbs_pow] at ha
  refine ⟨Nat.lt_of_le_of_lt (le_npow _ h) ha.1, ?_⟩
  have e : ((a.den ^ k : Nat) : Int).natAbs = a.den ^ k := Int.natAbs_natCast _
  rw [e] at ha
  rw [Int.natAbs_natCast]
  exact Nat.lt_of_le_of_lt (le_npow _ h) ha.2
theorem num_pos {a : Rat} (h : 0 < a) : 0 < a.num := by
  have h1 : 0 ≤ a.num := Rat.num_nonneg.mpr (Rat.le_of_lt h)
  have h2 : a.num ≠ 0 := num_ne (fun e => by rw [e] at h; exact absurd h (by decide))
  omega
end QM
set_option linter.all false
/-! roots: plain Lean -/
namespace QM
theorem dvd_pow' (a : Nat) {k : Nat} (h : k ≠ 0) : a ∣ a ^ k := by
  obtain ⟨j, rfl⟩ := Nat.exists_eq_succ_of_ne_zero h
  rw [Nat.pow_succ]
  exact Nat.dvd_mul_left a _
theorem ipow_le {a b : Int} (ha : 0 ≤ a) (h : a ≤ b) (k : Nat) : a ^ k ≤ b ^ k := by
  have h1 : a.natAbs ^ k ≤ b.natAbs ^ k := Nat.pow_le_pow_left (by omega) k
  rw [← Int.natAbs_pow, ← Int.natAbs_pow] at h1
  have h2 : 0 ≤ a ^ k := Int.pow_nonneg ha
  have h3 : 0 ≤ b ^ k := Int.pow_nonneg (by omega)
  omega
theorem pow_inj {a b k : Nat} (h : k ≠ 0) (e : a ^ k = b ^ k) : a = b := by
  rcases Nat.lt_trichotomy a b with x | x | x
  · have := Nat.pow_lt_pow_left x h
    omega
  · exact x
  · have := Nat.pow_lt_pow_left x h
    omega
theorem ipow_inj {a b : Int} {k : Nat} (h : k ≠ 0) (ha : 0 ≤ a) (hb : 0 ≤ b) (e : a ^ k = b ^ k) : a = b := by
  have h1 : a.natAbs ^ k = b.natAbs ^ k := by rw [← Int.natAbs_pow, ← Int.natAbs_pow, e]
  have := pow_inj h h1
  omega
theorem qpow_inj {a b : Rat} {k : Nat} (h : k ≠ 0) (ha : 0 < a) (hb : 0 < b) (e : a ^ k = b ^ k) : a = b := by
  have h1 := num_pos ha
  have h2 := num_pos hb
  have e1 : a.num ^ k = b.num ^ k := by rw [← npow, ← npow, e]
  have e2 : a.den ^ k = b.den ^ k := by rw [← dpow, ← dpow, e]
  exact Rat.ext (ipow_inj h (by omega) (by omega) e1) (pow_inj h e2)
/-- the root of a fraction from those of its parts -/
theorem rootQ {k : Nat} (hk : k ≠ 0) {q : Rat} {s t : Int} (hs0 : 0 < s) (ht0 : 0 < t) (hs : s ^ k = q.num) (ht : t ^ k = (q.den : Int)) : ∃ r : Rat, 0 < r ∧ r ^ k = q ∧ r.num = s ∧ (r.den : Int) = t := by
  have e1 : s.natAbs ^ k = q.num.natAbs := by rw [← Int.natAbs_pow, hs]
  have e2 : t.natAbs ^ k = q.den := by
    have h : (t ^ k).natAbs = ((q.den : Int)).natAbs := by rw [ht]
    rw [Int.natAbs_pow, Int.natAbs_natCast] at h
    exact h
  have hc : Nat.Coprime s.natAbs t.natAbs := by
    have c : Nat.Coprime (s.natAbs ^ k) (t.natAbs ^ k) := by
      rw [e1, e2]
      exact q.reduced
    have d1 : s.natAbs ∣ s.natAbs ^ k := dvd_pow' _ hk
    have d2 : t.natAbs ∣ t.natAbs ^ k := dvd_pow' _ hk
    exact Nat.Coprime.coprime_dvd_left d1 (Nat.Coprime.coprime_dvd_right d2 c)
  have hz : t.natAbs ≠ 0 := by omega
  refine ⟨⟨s, t.natAbs, hz, hc⟩, ?_, ?_, rfl, by show ((t.natAbs : Nat) : Int) = t; omega⟩
  · have h1 : (0 : Rat) ≤ ⟨s, t.natAbs, hz, hc⟩ := Rat.num_nonneg.mp (by show 0 ≤ s; omega)
    have h2 : (⟨s, t.natAbs, hz, hc⟩ : Rat) ≠ 0 := fun e => by
      have h3 : s = 0 := congrArg Rat.num e
      omega
    exact Rat.lt_of_le_of_ne h1 (fun e => h2 e.symm)
  · refine Rat.ext ?_ ?_
    · rw [npow]
      exact hs
    · rw [dpow]
      exact e2
/-- Newton's step -/
theorem mono {r s : Int} (hr : 0 ≤ r) (hs : 0 ≤ s) (k : Nat) : r * s ^ k + s * r ^ k ≤ r * r ^ k + s * s ^ k := by
  have key : 0 ≤ (r ^ k - s ^ k) * (r - s) := by
    rcases Int.le_total r s with h | h
    · have h1 : r ^ k ≤ s ^ k := ipow_le hr h k
      have := Int.mul_nonneg (show 0 ≤ s ^ k - r ^ k by omega) (show 0 ≤ s - r by omega)
      grind
    · have h1 : s ^ k ≤ r ^ k := ipow_le hs h k
      exact Int.mul_nonneg (by omega) (by omega)
  grind
theorem amgm {r s : Int} (hr : 0 ≤ r) (hs : 0 ≤ s) : ∀ k : Nat, ((k : Int) + 1) * s * r ^ k ≤ (k : Int) * (r * r ^ k) + s * s ^ k
  | 0 => by simp
  | k + 1 => by
    have h1 := amgm hr hs k
    have h2 := mono hr hs (k + 1)
    have h3 := Int.mul_le_mul_of_nonneg_left h1 hr
    rw [Int.pow_succ, Int.pow_succ] at *
    push_cast
    grind
theorem newton_ge {n r s : Int} {k : Nat} (hr : 1 ≤ r) (hs : 0 ≤ s) (h : s ^ (k + 1) ≤ n) : s ≤ ((k : Int) * r + n.fdiv (r ^ k)).fdiv ((k : Int) + 1) := by
  have hp : 0 < r ^ k := Int.pow_pos (by omega)
  have h1 := amgm (show 0 ≤ r by omega) hs k
  rw [Int.pow_succ] at h
  rw [Int.fdiv_eq_ediv_of_nonneg _ (Int.le_of_lt hp), Int.fdiv_eq_ediv_of_nonneg _ (by omega)]
  rw [Int.le_ediv_iff_mul_le (by omega)]
  have h2 : ((k : Int) + 1) * s - k * r ≤ n / r ^ k := by
    rw [Int.le_ediv_iff_mul_le hp]
    grind
  grind
theorem newton_le {n r : Int} {k : Nat} (hr : 1 ≤ r) (h : r ≤ ((k : Int) * r + n.fdiv (r ^ k)).fdiv ((k : Int) + 1)) : r ^ (k + 1) ≤ n := by
  have hp : 0 < r ^ k := Int.pow_pos (by omega)
  rw [Int.fdiv_eq_ediv_of_nonneg _ (Int.le_of_lt hp), Int.fdiv_eq_ediv_of_nonneg _ (by omega)] at h
  rw [Int.le_ediv_iff_mul_le (by omega)] at h
  have h2 : r ≤ n / r ^ k := by grind
  rw [Int.le_ediv_iff_mul_le hp] at h2
  rw [Int.pow_succ]
  grind
theorem start_ge {n s : Int} {k b : Nat} (hs : 0 ≤ s) (hb : n.natAbs < 2 ^ b) (hk : 0 < k) (h : s ^ k ≤ n) : s ≤ 1 * 2 ^ (b / k + 1) := by
  rw [Int.one_mul]
  rcases Int.le_total s (2 ^ (b / k + 1)) with z | z
  · exact z
  · exfalso
    have h1 : ((2 : Int) ^ (b / k + 1)) ^ k ≤ s ^ k := ipow_le (Int.le_of_lt (Int.pow_pos (by decide))) z k
    rw [← Int.pow_mul] at h1
    have h2 : b ≤ (b / k + 1) * k := by
      have := Nat.lt_div_mul_add (a := b) hk
      rw [Nat.add_mul, Nat.one_mul]
      omega
    have h3 : (2 : Nat) ^ b ≤ 2 ^ ((b / k + 1) * k) := Nat.pow_le_pow_right (by decide) h2
    have h4 : ((2 ^ b : Nat) : Int) ≤ ((2 ^ ((b / k + 1) * k) : Nat) : Int) := Int.ofNat_le.mpr h3
    rw [Int.natCast_pow, Int.natCast_pow] at h4
    have h5 : ((n.natAbs : Nat) : Int) < ((2 ^ b : Nat) : Int) := Int.ofNat_lt.mpr hb
    rw [Int.natCast_pow] at h5
    have e2 : ((2 : Nat) : Int) = 2 := rfl
    rw [e2] at h4 h5
    omega
theorem small_root {n s : Int} {k : Nat} (hs : 0 ≤ s) (hk : 1 ≤ k) (h : s ^ k ≤ n) : s ≤ n := by
  have h1 := le_npow s.natAbs hk
  have h2 : (s ^ k).natAbs = s.natAbs ^ k := Int.natAbs_pow s k
  have h3 : 0 ≤ s ^ k := Int.pow_nonneg hs
  omega
theorem pow01 {n : Int} (h0 : 0 ≤ n) (h2 : n < 2) {k : Nat} (hk : 1 ≤ k) : n ^ k ≤ n := by
  obtain ⟨j, rfl⟩ : ∃ j, k = j + 1 := ⟨k - 1, by omega⟩
  have e : n = 0 ∨ n = 1 := by omega
  rcases e with rfl | rfl
  · rw [Int.pow_succ, Int.mul_zero]
    exact Int.le_refl _
  · rw [Int.one_pow]
    exact Int.le_refl _
/-- the scale between two pairs -/
def U (c4 c6 e4 e6 : Int) (u : Rat) : Prop := 0 < u ∧ u ^ 4 * (e4 : Rat) = (c4 : Rat) ∧ u ^ 6 * (e6 : Rat) = (c6 : Rat)
theorem cz {a : Int} : (a : Rat) = 0 ↔ a = 0 := by
  constructor
  · intro h
    exact_mod_cast h
  · rintro rfl
    rfl
theorem pp {u : Rat} (h : 0 < u) (k : Nat) : u ^ k ≠ 0 := fun e => by
  have h1 := Rat.pow_pos (n := k) h
  rw [e] at h1
  exact absurd h1 (by decide)
theorem U.z4 {c4 c6 e4 e6 : Int} {u : Rat} (h : U c4 c6 e4 e6 u) : c4 = 0 ↔ e4 = 0 := by
  obtain ⟨h0, h1, h2⟩ := h
  have := pp h0 4
  rw [← cz, ← cz (a := e4), ← h1]
  grind
theorem U.z6 {c4 c6 e4 e6 : Int} {u : Rat} (h : U c4 c6 e4 e6 u) : c6 = 0 ↔ e6 = 0 := by
  obtain ⟨h0, h1, h2⟩ := h
  have := pp h0 6
  rw [← cz, ← cz (a := e6), ← h2]
  grind
theorem U.uniq {c4 c6 e4 e6 : Int} {u v : Rat} (z : e4 ≠ 0 ∨ e6 ≠ 0) (h : U c4 c6 e4 e6 u) (k : U c4 c6 e4 e6 v) : u = v := by
  obtain ⟨h0, h1, h2⟩ := h
  obtain ⟨k0, k1, k2⟩ := k
  rcases z with z | z
  · have z' : (e4 : Rat) ≠ 0 := fun e => z (cz.mp e)
    exact qpow_inj (k := 4) (by decide) h0 k0 (by grind)
  · have z' : (e6 : Rat) ≠ 0 := fun e => z (cz.mp e)
    exact qpow_inj (k := 6) (by decide) h0 k0 (by grind)
theorem U.p4 {c4 c6 e4 e6 : Int} {u : Rat} (z : e4 ≠ 0) (h : U c4 c6 e4 e6 u) : u ^ 4 = Rat.divInt c4 e4 := by
  obtain ⟨h0, h1, h2⟩ := h
  have z' : (e4 : Rat) ≠ 0 := fun e => z (cz.mp e)
  rw [Rat.divInt_eq_div]
  grind
theorem U.p6 {c4 c6 e4 e6 : Int} {u : Rat} (z : e6 ≠ 0) (h : U c4 c6 e4 e6 u) : u ^ 6 = Rat.divInt c6 e6 := by
  obtain ⟨h0, h1, h2⟩ := h
  have z' : (e6 : Rat) ≠ 0 := fun e => z (cz.mp e)
  rw [Rat.divInt_eq_div]
  grind
theorem U.p2 {c4 c6 e4 e6 : Int} {u : Rat} (z4 : c4 ≠ 0) (z6 : e6 ≠ 0) (h : U c4 c6 e4 e6 u) : u ^ 2 = Rat.divInt (c6 * e4) (e6 * c4) := by
  obtain ⟨h0, h1, h2⟩ := h
  have z6' : (e6 : Rat) ≠ 0 := fun e => z6 (cz.mp e)
  have z4' : (c4 : Rat) ≠ 0 := fun e => z4 (cz.mp e)
  have := pp h0 4
  rw [Rat.divInt_eq_div, Rat.intCast_mul, Rat.intCast_mul]
  have e : (c6 : Rat) * e4 = u ^ 2 * (e6 * c4) := by
    rw [← h1, ← h2]
    grind
  grind
theorem U.of4 {c4 e4 : Int} {u : Rat} (z : e4 ≠ 0) (h0 : 0 < u) (h : u ^ 4 = Rat.divInt c4 e4) : U c4 0 e4 0 u := by
  have z' : (e4 : Rat) ≠ 0 := fun e => z (cz.mp e)
  rw [Rat.divInt_eq_div] at h
  refine ⟨h0, by grind, by grind⟩
theorem U.of6 {c6 e6 : Int} {u : Rat} (z : e6 ≠ 0) (h0 : 0 < u) (h : u ^ 6 = Rat.divInt c6 e6) : U 0 c6 0 e6 u := by
  have z' : (e6 : Rat) ≠ 0 := fun e => z (cz.mp e)
  rw [Rat.divInt_eq_div] at h
  refine ⟨h0, by grind, by grind⟩
theorem U.of2 {c4 c6 e4 e6 : Int} {u : Rat} (z4 : c4 ≠ 0) (y4 : e4 ≠ 0) (z6 : e6 ≠ 0) (h0 : 0 < u) (h : u ^ 2 = Rat.divInt (c6 * e4) (e6 * c4)) : U c4 c6 e4 e6 u ↔ (u.num * u.num) * (u.num * u.num) * e4 = (u.den * u.den) * (u.den * u.den) * c4 := by
  have z6' : (e6 : Rat) ≠ 0 := fun e => z6 (cz.mp e)
  have z4' : (c4 : Rat) ≠ 0 := fun e => z4 (cz.mp e)
  have y4' : (e4 : Rat) ≠ 0 := fun e => y4 (cz.mp e)
  have hd := denR u
  have hu := as_div u
  rw [Rat.divInt_eq_div, Rat.intCast_mul, Rat.intCast_mul] at h
  have k : u ^ 4 * (e4 : Rat) = c4 ↔ (u.num * u.num) * (u.num * u.num) * e4 = ((u.den : Int) * u.den) * (u.den * u.den) * c4 := by
    rw [← Rat.intCast_inj]
    simp only [Rat.intCast_mul]
    constructor
    · intro e
      grind
    · intro e
      grind
  constructor
  · rintro ⟨_, h1, _⟩
    exact k.mp h1
  · intro e
    have h1 := k.mpr e
    refine ⟨h0, h1, ?_⟩
    have h3 : u ^ 6 = u ^ 4 * u ^ 2 := by grind
    have h5 : (e6 : Rat) * c4 ≠ 0 := fun e => by
      rcases Rat.mul_eq_zero.mp e with e | e
      · exact z6' e
      · exact z4' e
    have h6 : u ^ 2 * ((e6 : Rat) * c4) = c6 * e4 := by
      rw [h]
      grind
    have h7 : u ^ 6 * e6 * c4 = c6 * c4 := by
      rw [h3]
      have : u ^ 4 * u ^ 2 * e6 * c4 = u ^ 4 * (u ^ 2 * (e6 * c4)) := by grind
      rw [this, h6, ← h1]
      grind
    grind
theorem div_ne {n d : Int} (h : n ≠ 0) (k : d ≠ 0) : Rat.divInt n d ≠ 0 := fun e => by
  have hn : (n : Rat) ≠ 0 := fun e => h (cz.mp e)
  have hd : (d : Rat) ≠ 0 := fun e => k (cz.mp e)
  rw [Rat.divInt_eq_div] at e
  grind
theorem qpos {u : Rat} (h : 0 < u) (k : Nat) : 0 < u ^ k := Rat.pow_pos h
theorem U.pos6 {c4 c6 e4 e6 : Int} {u : Rat} (z : e6 ≠ 0) (h : U c4 c6 e4 e6 u) : 0 < (Rat.divInt c6 e6).num := by
  rw [← U.p6 z h]
  exact num_pos (qpos h.1 6)
theorem U.pos4 {c4 c6 e4 e6 : Int} {u : Rat} (z : e4 ≠ 0) (h : U c4 c6 e4 e6 u) : 0 < c4 * e4 := by
  have h1 : 0 < (Rat.divInt c4 e4).num := by
    rw [← U.p4 z h]
    exact num_pos (qpos h.1 4)
  rw [Rat.num_divInt] at h1
  have h2 : 0 < e4.sign * c4 := by
    have hg : (0 : Int) < ((Int.gcd e4 c4 : Nat) : Int) := by
      have := Int.gcd_pos_of_ne_zero_left c4 z
      omega
    have h3 := (Int.le_ediv_iff_mul_le (a := 1) (b := e4.sign * c4) hg).mp (by omega)
    omega
  rcases Int.lt_trichotomy e4 0 with y | y | y
  · rw [Int.sign_eq_neg_one_of_neg y] at h2
    exact Int.mul_pos_of_neg_of_neg (by omega) y
  · exact absurd y z
  · rw [Int.sign_eq_one_of_pos y] at h2
    exact Int.mul_pos (by omega) y
theorem U.sq4 {c4 c6 e4 e6 : Int} {u r : Rat} (z : e4 ≠ 0) (h : U c4 c6 e4 e6 u) (r0 : 0 < r) (re : r ^ 2 = Rat.divInt c4 e4) : u ^ 2 = r := by
  refine qpow_inj (k := 2) (by decide) (qpos h.1 2) r0 ?_
  rw [re, ← U.p4 z h]
  grind
theorem U.sq4' {c4 c6 e4 e6 : Int} {u : Rat} (z : e4 ≠ 0) (h : U c4 c6 e4 e6 u) : (u ^ 2) ^ 2 = Rat.divInt c4 e4 := by
  rw [← U.p4 z h]
  grind
theorem U.cb6 {c4 c6 e4 e6 : Int} {u r : Rat} (z : e6 ≠ 0) (h : U c4 c6 e4 e6 u) (r0 : 0 < r) (re : r ^ 3 = Rat.divInt c6 e6) : u ^ 2 = r := by
  refine qpow_inj (k := 3) (by decide) (qpos h.1 2) r0 ?_
  rw [re, ← U.p6 z h]
  grind
theorem U.cb6' {c4 c6 e4 e6 : Int} {u : Rat} (z : e6 ≠ 0) (h : U c4 c6 e4 e6 u) : (u ^ 2) ^ 3 = Rat.divInt c6 e6 := by
  rw [← U.p6 z h]
  grind
theorem U.iff {c4 c6 e4 e6 : Int} {u : Rat} (h : 0 < u) : U c4 c6 e4 e6 u ↔ (e6 : Rat) * u ^ 6 = (c6 : Rat) ∧ (e4 : Rat) * u ^ 4 = (c4 : Rat) := by
  unfold U
  constructor
  · rintro ⟨_, h1, h2⟩
    exact ⟨by grind, by grind⟩
  · rintro ⟨h1, h2⟩
    exact ⟨h, by grind, by grind⟩
end QM
set_option Elab.async false
set_option linter.all false
set_option maxRecDepth 100000
namespace L2
open PySem PySem.Spec PyProof.Rows
section
variable {X : Cx}
def rIsqrt : List V → Hp → VK → Prop := fun vs H Q => ∃ a : Int, vs = [.int a] ∧ 0 ≤ a ∧ a.natAbs < 2 ^ 4000 ∧ Q (.int ((Float64.isqrt a.toNat : Nat) : Int)) H
theorem isq_int1 {i : Int} {us : List Value} (r : Vals [V.int i] us) : ∃ t, us = [Value.int i t] := by
  obtain ⟨t, u, h⟩ := Vals.int2 (i := i) (j := i) (us := us ++ us) (by
    cases r with
    | cons a b => cases b; exact .cons a (.cons a .nil))
  match us, h with
  | [_], h => exact ⟨t, by simp at h; rw [h.1]⟩
  | [], h => simp at h
  | _ :: _ :: _, h => simp at h
theorem cr_isqrt : CallR X (.builtin "math.isqrt") rIsqrt := by
  intro pins s σ H vs us Q I r h
  obtain ⟨a, rfl, h0, h1, q⟩ := h
  obtain ⟨t, rfl⟩ := isq_int1 r
  have hl : a.toNat.log2 ≤ 3999 := PySem.W.mg_log (k := 3999) (by rw [show a.toNat = a.natAbs by omega]; exact h1)
  exact call_function_meets PySem.W.MGF.kind_isqrt PySem.W.MGF.plain_isqrt PySem.W.MGF.entry_isqrt (PySem.W.MGF.args_isqrt _) (PySem.W.mg_run_isqrt a t (by omega) (by omega) (by omega)).meets ⟨.int _, H, I.tok _, ⟨_, rfl⟩, q⟩
end
end L2
namespace QM
/-- the whole root of a number -/
theorem isqrt_is {n : Int} (h : 0 ≤ n) : ((PySem.Float64.isqrt n.toNat : Nat) : Int) * ((PySem.Float64.isqrt n.toNat : Nat) : Int) ≤ n ∧ ∀ s : Int, 0 ≤ s → s * s ≤ n → s ≤ ((PySem.Float64.isqrt n.toNat : Nat) : Int) := by
  obtain ⟨a, b⟩ := PySem.Float64.isqrt_spec n.toNat
  generalize PySem.Float64.isqrt n.toNat = q at a b
  have e : ((n.toNat : Nat) : Int) = n := Int.toNat_of_nonneg h
  have a' : (q : Int) * q ≤ n := by rw [← e]; exact_mod_cast a
  have b' : n < ((q : Int) + 1) * (q + 1) := by rw [← e]; exact_mod_cast b
  refine ⟨a', fun s hs h1 => ?_⟩
  rcases (show (q : Int) < s ∨ s ≤ q by omega) with z | z
  · exfalso
    have := Int.mul_le_mul (show (q : Int) + 1 ≤ s by omega) (show (q : Int) + 1 ≤ s by omega) (by omega) hs
    omega
  · exact z
end QM
/-! Reckoning modulo n, inverses by Euclid's divisions: plain mathematics. -/
set_option linter.all false
namespace K45M
/-- one modulo n -/
def Mo (n a b : Int) : Prop := a % n = b % n
section
variable {n a b c d : Int}
theorem Mo.rfl' : Mo n a a := rfl
theorem Mo.of_eq (h : a = b) : Mo n a b := by rw [h]; exact Mo.rfl'
theorem Mo.symm (h : Mo n a b) : Mo n b a := Eq.symm h
theorem Mo.trans (h : Mo n a b) (k : Mo n b c) : Mo n a c := Eq.trans h k
theorem Mo.add (h : Mo n a b) (k : Mo n c d) : Mo n (a + c) (b + d) := by
  unfold Mo at *
  rw [Int.add_emod, h, k, ← Int.add_emod]
theorem Mo.sub (h : Mo n a b) (k : Mo n c d) : Mo n (a - c) (b - d) := by
  unfold Mo at *
  rw [Int.sub_emod, h, k, ← Int.sub_emod]
theorem Mo.mul (h : Mo n a b) (k : Mo n c d) : Mo n (a * c) (b * d) := by
  unfold Mo at *
  rw [Int.mul_emod, h, k, ← Int.mul_emod]
theorem Mo.neg (h : Mo n a b) : Mo n (-a) (-b) := by
  have := (Mo.rfl' (n := n) (a := 0)).sub h
  rw [Int.zero_sub, Int.zero_sub] at this
  exact this
theorem Mo.mod : Mo n (a % n) a := Int.emod_emod_of_dvd a (Int.dvd_refl n)
theorem Mo.iff_dvd : Mo n a b ↔ n ∣ a - b := by
  unfold Mo
  exact Int.emod_eq_emod_iff_emod_sub_eq_zero.trans (Int.dvd_iff_emod_eq_zero).symm
theorem Mo.zero : Mo n a 0 ↔ n ∣ a := by
  rw [Mo.iff_dvd, Int.sub_zero]
/-- a digit -/
def Dg (n a : Int) : Prop := 0 ≤ a ∧ a < n
theorem Dg.eq (ha : Dg n a) (hb : Dg n b) (h : Mo n a b) : a = b := by
  unfold Mo at h
  rwa [Int.emod_eq_of_lt ha.1 ha.2, Int.emod_eq_of_lt hb.1 hb.2] at h
theorem Dg.mod (hn : 0 < n) : Dg n (a % n) := ⟨Int.emod_nonneg _ (by omega), Int.emod_lt_of_pos _ hn⟩
/-- z has an inverse -/
def Un (n z : Int) : Prop := ∃ t, Mo n (z * t) 1
theorem Un.mul {y z : Int} (hy : Un n y) (hz : Un n z) : Un n (y * z) := by
  obtain ⟨s, hs⟩ := hy
  obtain ⟨t, ht⟩ := hz
  refine ⟨s * t, ?_⟩
  have := hs.mul ht
  rw [Int.mul_one] at this
  exact (Mo.of_eq (by ac_rfl)).trans this
theorem Un.one : Un n 1 := ⟨1, Mo.rfl'⟩
theorem Un.congr {y z : Int} (h : Mo n y z) (hy : Un n y) : Un n z := by
  obtain ⟨s, hs⟩ := hy
  exact ⟨s, (h.symm.mul Mo.rfl').trans hs⟩
theorem Un.of_mul {y z : Int} (h : Un n (y * z)) : Un n y ∧ Un n z := by
  obtain ⟨s, hs⟩ := h
  exact ⟨⟨z * s, (Mo.of_eq (by ac_rfl)).trans hs⟩, ⟨y * s, (Mo.of_eq (by ac_rfl)).trans hs⟩⟩
theorem Un.cancel {z : Int} (hz : Un n z) (h : Mo n (a * z) (b * z)) : Mo n a b := by
  obtain ⟨t, ht⟩ := hz
  have h1 := h.mul (Mo.rfl' (a := t))
  have e : ∀ x : Int, Mo n (x * z * t) x := fun x => by
    have := (Mo.rfl' (a := x)).mul ht
    rw [Int.mul_one, ← Int.mul_assoc] at this
    exact this
  exact (e a).symm.trans (h1.trans (e b))
/-- Bezout -/
theorem bez : ∀ (m k : Nat), ∃ x y : Int, (m : Int) * x + (k : Int) * y = ((Nat.gcd m k : Nat) : Int) := by
  intro m
  induction m using Nat.strongRecOn with
  | ind m ih =>
    intro k
    rcases Nat.eq_zero_or_pos m with h | h
    · subst h
      exact ⟨0, 1, by simp⟩
    · obtain ⟨x, y, e⟩ := ih (k % m) (Nat.mod_lt _ h) m
      rw [Nat.gcd_rec m k]
      refine ⟨y - (k / m : Nat) * x, x, ?_⟩
      rw [← e]
      have : (k : Int) = (m : Int) * ((k / m : Nat) : Int) + ((k % m : Nat) : Int) := by exact_mod_cast (Nat.div_add_mod k m).symm
      generalize ((k / m : Nat) : Int) = q at *
      generalize ((k % m : Nat) : Int) = r at *
      rw [this]
      grind
theorem un_iff (hn : 0 < n) {z : Int} : Un n z ↔ Int.gcd z n = 1 := by
  constructor
  · rintro ⟨t, ht⟩
    have h := Mo.iff_dvd.mp ht
    have g1 : (Int.gcd z n : Int) ∣ z := Int.gcd_dvd_left ..
    have g2 : (Int.gcd z n : Int) ∣ n := Int.gcd_dvd_right ..
    have g3 : (Int.gcd z n : Int) ∣ z * t - 1 := Int.dvd_trans g2 h
    have g4 : (Int.gcd z n : Int) ∣ 1 := by
      have := Int.dvd_sub (Int.dvd_mul_of_dvd_left (b := z) (c := t) g1) g3
      rw [show z * t - (z * t - 1) = 1 by omega] at this
      exact this
    exact Nat.dvd_one.mp (Int.natCast_dvd_natCast.mp g4)
  · intro h
    obtain ⟨x, y, e⟩ := bez z.natAbs n.natAbs
    have h' : Nat.gcd z.natAbs n.natAbs = 1 := h
    rw [h'] at e
    have en : (n.natAbs : Int) = n := by omega
    rw [en] at e
    rcases Int.natAbs_eq z with q | q
    · refine ⟨x, Mo.iff_dvd.mpr ⟨-y, ?_⟩⟩
      rw [q]
      have : n * -y = -(n * y) := Int.mul_neg ..
      omega
    · refine ⟨-x, Mo.iff_dvd.mpr ⟨-y, ?_⟩⟩
      rw [q]
      have : n * -y = -(n * y) := Int.mul_neg ..
      have : -(z.natAbs : Int) * -x = (z.natAbs : Int) * x := Int.neg_mul_neg ..
      omega
theorem gcd_congr (h : Mo n a b) : Int.gcd a n = Int.gcd b n := by
  obtain ⟨q, hq⟩ := Mo.iff_dvd.mp h
  have : a = b + n * q := by omega
  rw [this, Int.gcd_add_mul_left_left]
theorem gcd_unit (hn : 0 < n) {z : Int} (hz : Un n z) (a : Int) : Int.gcd (a * z) n = Int.gcd a n := by
  have := (un_iff hn).mp hz
  show Nat.gcd (a * z).natAbs n.natAbs = Nat.gcd a.natAbs n.natAbs
  rw [Int.natAbs_mul]
  exact Nat.Coprime.gcd_mul_right_cancel _ this
theorem zero_unit {z : Int} (hz : Un n z) : Mo n (a * z) 0 ↔ Mo n a 0 := by
  constructor
  · intro h
    exact hz.cancel (h.trans (Mo.of_eq (Int.zero_mul z).symm))
  · intro h
    exact (h.mul Mo.rfl').trans (Mo.of_eq (Int.zero_mul z))
end
/-! ### Euclid's divisions with one row of factors -/
/-- above * a is high modulo n, below * a is low; the factors stay small -/
structure Eu (n a : Int) (high low above below : Int) : Prop where
  h0 : 0 < high
  l0 : 0 ≤ low
  ha : Mo n (above * a) high
  la : Mo n (below * a) low
  g : Nat.gcd high.natAbs low.natAbs = Nat.gcd a.natAbs n.natAbs
  sz : high * (below.natAbs : Int) + low * (above.natAbs : Int) = n
  sg : above * below ≤ 0
  lt : low < high
  hn : high ≤ n
theorem Eu.start {n a : Int} (hn : 0 < n) : Eu n a n (a % n) 0 1 := by
  refine ⟨hn, Int.emod_nonneg _ (by omega), ?_, ?_, ?_, by simp, by decide, Int.emod_lt_of_pos _ hn, Int.le_refl _⟩
  · rw [Int.zero_mul]
    exact (Mo.zero.mpr (Int.dvd_refl n)).symm
  · rw [Int.one_mul]
    exact Mo.mod.symm
  · have := gcd_congr (n := n) (a := a % n) (b := a) Mo.mod
    rw [Nat.gcd_comm]
    exact this
theorem natAbs_step {u v q : Int} (h : u * v ≤ 0) (hq : 0 ≤ q) : ((u - q * v).natAbs : Int) = (u.natAbs : Int) + q * (v.natAbs : Int) := by
  have hqv : q * (v.natAbs : Int) = ((q * v).natAbs : Int) := by
    rw [Int.natAbs_mul, Int.natCast_mul]
    congr 1
    omega
  rw [hqv]
  rcases Int.lt_trichotomy v 0 with hv | hv | hv
  · have u0 : 0 ≤ u := Int.not_lt.mp fun z => by
      have := Int.mul_pos_of_neg_of_neg z hv
      omega
    have : q * v ≤ 0 := Int.mul_nonpos_of_nonneg_of_nonpos hq (by omega)
    omega
  · subst hv
    rw [Int.mul_zero]
    omega
  · have u0 : u ≤ 0 := Int.not_lt.mp fun z => by
      have := Int.mul_pos z hv
      omega
    have : 0 ≤ q * v := Int.mul_nonneg hq (by omega)
    omega
theorem Eu.step {n a high low above below : Int} (h : Eu n a high low above below) (hl : low ≠ 0) : Eu n a low (high % low) below (above - high / low * below) ∧ high % low < low := by
  obtain ⟨h0, l0, ha, la, g, sz, sg, lt, hn⟩ := h
  have lp : 0 < low := by omega
  have q0 : 0 ≤ high / low := Int.ediv_nonneg (by omega) l0
  have em : high % low = high - high / low * low := by
    have := Int.emod_def high low
    rw [this, Int.mul_comm]
  refine ⟨⟨lp, Int.emod_nonneg _ hl, la, ?_, ?_, ?_, ?_, Int.emod_lt_of_pos _ lp, by omega⟩, Int.emod_lt_of_pos _ lp⟩
  · rw [em]
    have e : (above - high / low * below) * a = above * a - high / low * (below * a) := by grind
    rw [e]
    exact ha.sub (Mo.rfl'.mul la)
  · rw [← g]
    have : (high % low).natAbs = high.natAbs % low.natAbs := by
      obtain ⟨x, rfl⟩ : ∃ x : Nat, high = x := ⟨high.toNat, by omega⟩
      obtain ⟨y, rfl⟩ : ∃ y : Nat, low = y := ⟨low.toNat, by omega⟩
      rw [← Int.natCast_emod]
      rfl
    rw [this, Nat.gcd_comm low.natAbs, ← Nat.gcd_rec, Nat.gcd_comm]
  · rw [natAbs_step sg q0, em, ← sz]
    generalize (below.natAbs : Int) = u
    generalize (above.natAbs : Int) = v
    grind
  · have e : below * (above - high / low * below) = above * below - high / low * (below * below) := by grind
    rw [e]
    have b2 : 0 ≤ below * below := by
      rcases Int.le_total 0 below with q | q
      · exact Int.mul_nonneg q q
      · exact Int.mul_nonneg_of_nonpos_of_nonpos q q
    have := Int.mul_nonneg q0 b2
    omega
theorem Eu.small {n a high low above below : Int} (h : Eu n a high low above below) (hl : low ≠ 0) : (above.natAbs : Int) ≤ n ∧ (below.natAbs : Int) ≤ n := by
  obtain ⟨h0, l0, ha, la, g, sz, sg, lt, hn⟩ := h
  have h1 : 1 * (below.natAbs : Int) ≤ high * (below.natAbs : Int) := Int.mul_le_mul_of_nonneg_right (by omega) (by omega)
  have h2 : 1 * (above.natAbs : Int) ≤ low * (above.natAbs : Int) := Int.mul_le_mul_of_nonneg_right (by omega) (by omega)
  omega
/-- r is the inverse of a modulo n -/
def Inv (n a r : Int) : Prop := Dg n r ∧ Mo n (a * r) 1
theorem Inv.uniq {n a r s : Int} (h : Inv n a r) (k : Inv n a s) : r = s := by
  refine h.1.eq k.1 ?_
  have hu : Un n a := ⟨r, h.2⟩
  refine hu.cancel ?_
  rw [Int.mul_comm r, Int.mul_comm s]
  exact h.2.trans k.2.symm
theorem Inv.un {n a r : Int} (h : Inv n a r) : Un n r := ⟨a, by rw [Int.mul_comm]; exact h.2⟩
theorem Eu.inv {n a high above below : Int} (h : Eu n a high 0 above below) (hn : 0 < n) (hg : Nat.gcd a.natAbs n.natAbs = 1) : Inv n a (above % n) := by
  have g := h.g
  have h0 := h.h0
  rw [hg] at g
  have h1 : high = 1 := by
    simp at g
    omega
  refine ⟨Dg.mod hn, ?_⟩
  have := h.ha
  rw [h1, Int.mul_comm] at this
  exact (Mo.rfl'.mul Mo.mod).trans this
theorem Eu.inv1 {n a high above below : Int} (h : Eu n a high 1 above below) (hn : 0 < n) : Inv n a (below % n) := by
  refine ⟨Dg.mod hn, ?_⟩
  have := h.la
  rw [Int.mul_comm] at this
  exact (Mo.rfl'.mul Mo.mod).trans this
theorem Eu.rest {n a high low above below : Int} (h : Eu n a high low above below) (hg : Nat.gcd a.natAbs n.natAbs = 1) (hl : 1 < low) : high % low ≠ 0 := by
  intro z
  have g := h.g
  rw [hg] at g
  have : low.natAbs ∣ high.natAbs := Int.natAbs_dvd_natAbs.mpr (Int.dvd_of_emod_eq_zero z)
  rw [Nat.gcd_eq_right this] at g
  omega
/-! ### points modulo n -/
abbrev Pt := Option (Int × Int)
inductive R
  | ok (P : Pt)
  | br (d : Option Int)
open Classical in
noncomputable def iv (n z : Int) : Int := if h : ∃ r, Inv n z r then h.choose else 0
theorem iv_eq {n z r : Int} (h : Inv n z r) : iv n z = r := by
  have e : ∃ r, Inv n z r := ⟨r, h⟩
  unfold iv
  rw [dif_pos e]
  exact e.choose_spec.uniq h
noncomputable def dv (n x y z upper lower : Int) : R :=
  if Int.gcd lower n = 1 then
    .ok (some ((upper * iv n lower * (upper * iv n lower) - x - z) % n, (upper * iv n lower * (x - (upper * iv n lower * (upper * iv n lower) - x - z) % n) - y) % n))
  else .br (some (Int.gcd lower n))
/-- the sum of two points, as the law reckons -/
noncomputable def sumR (n a : Int) : Pt → Pt → R
  | none, Q => .ok Q
  | some P, none => .ok (some P)
  | some (x, y), some (z, w) => if x = z then (if (y + w) % n = 0 then .ok none else if y ≠ w then .br none else dv n x y z (3 * x * x + a) (2 * y)) else dv n x y z (w - y) (z - x)
/-- three letters for a point -/
structure Rep (n X Y x y z : Int) : Prop where
  dX : Dg n X
  dY : Dg n Y
  dx : Dg n x
  dy : Dg n y
  dz : Dg n z
  u : Un n z
  ex : Mo n x (X * (z * z))
  ey : Mo n y (Y * (z * z * z))
section
variable {n a X Y x y z : Int}
theorem dv_k {x y z upper lower k : Int} (hn : 0 < n) (hu : Un n lower) (hk : Mo n (k * lower) upper) : dv n x y z upper lower = .ok (some ((k * k - x - z) % n, (k * (x - (k * k - x - z) % n) - y) % n)) := by
  have hg : Int.gcd lower n = 1 := (un_iff hn).mp hu
  obtain ⟨t, ht⟩ := hu
  have hi : Inv n lower (t % n) := ⟨Dg.mod hn, (Mo.rfl'.mul Mo.mod).trans ht⟩
  have e : iv n lower = t % n := iv_eq hi
  unfold dv
  rw [if_pos hg, e]
  have hm : Mo n (upper * (t % n)) k := by
    refine (hk.symm.mul Mo.rfl').trans ?_
    have := (Mo.rfl' (n := n) (a := k)).mul hi.2
    rw [Int.mul_one, ← Int.mul_assoc] at this
    exact this
  have e1 : (upper * (t % n) * (upper * (t % n)) - x - z) % n = (k * k - x - z) % n := ((hm.mul hm).sub Mo.rfl').sub Mo.rfl'
  rw [e1]
  have e2 : (upper * (t % n) * (x - (k * k - x - z) % n) - y) % n = (k * (x - (k * k - x - z) % n) - y) % n := (hm.mul Mo.rfl').sub Mo.rfl'
  rw [e2]
theorem two_zero (h2 : Un n 2) {y : Int} : (y + y) % n = 0 ↔ Mo n y 0 := by
  have e : y + y = y * 2 := by omega
  rw [e]
  have := zero_unit (a := y) h2
  unfold Mo at this ⊢
  rw [Int.zero_emod] at this ⊢
  exact this
theorem Rep.y0 (h : Rep n X Y x y z) : y = 0 ↔ Mo n Y 0 := by
  have uz := (h.u.mul h.u).mul h.u
  constructor
  · intro e
    have := h.ey
    rw [e] at this
    exact (zero_unit uz).mp this.symm
  · intro e
    have := h.ey.trans ((zero_unit uz).mpr e)
    exact h.dy.eq ⟨Int.le_refl 0, by have := h.dy; unfold Dg at this; omega⟩ this
theorem sumR_ss (n a x y z w : Int) : sumR n a (some (x, y)) (some (z, w)) = if x = z then (if (y + w) % n = 0 then .ok none else if y ≠ w then .br none else dv n x y z (3 * x * x + a) (2 * y)) else dv n x y z (w - y) (z - x) := rfl
theorem dbl_zero (h : Rep n X Y x y z) (h2 : Un n 2) (hy : y = 0) : sumR n a (some (X, Y)) (some (X, Y)) = .ok none := by
  rw [sumR_ss, if_pos rfl, if_pos ((two_zero h2).mpr (h.y0.mp hy))]
theorem gcd_2Y (h : Rep n X Y x y z) (hn : 0 < n) (h2 : Un n 2) : Int.gcd (2 * Y) n = Int.gcd y n := by
  rw [Int.mul_comm, gcd_unit hn h2, gcd_congr h.ey, gcd_unit hn ((h.u.mul h.u).mul h.u)]
theorem dbl_br (h : Rep n X Y x y z) (hn : 0 < n) (h2 : Un n 2) (hy : y ≠ 0) (hg : Int.gcd y n ≠ 1) : sumR n a (some (X, Y)) (some (X, Y)) = .br (some (Int.gcd y n)) := by
  rw [sumR_ss, if_pos rfl, if_neg (fun e => hy (h.y0.mpr ((two_zero h2).mp e))), if_neg (by simp)]
  unfold dv
  rw [gcd_2Y h hn h2, if_neg hg]
theorem dbl_ok (h : Rep n X Y x y z) (hn : 0 < n) (h2 : Un n 2) (hy : y ≠ 0) (hg : Int.gcd y n = 1) {yy zz s m x3 y3 z3 : Int}
    (e1 : yy = y * y % n) (e2 : zz = z * z % n) (e3 : s = 4 * x * yy % n) (e4 : m = (3 * x * x + a * zz * zz) % n) (e5 : x3 = (m * m - 2 * s) % n) (e6 : y3 = (m * (s - x3) - 8 * yy * yy) % n) (e7 : z3 = 2 * y * z % n) :
    ∃ X3 Y3, sumR n a (some (X, Y)) (some (X, Y)) = .ok (some (X3, Y3)) ∧ Rep n X3 Y3 x3 y3 z3 := by
  have u2Y : Un n (2 * Y) := (un_iff hn).mpr ((gcd_2Y h hn h2).trans hg)
  have uY := (Un.of_mul u2Y).2
  obtain ⟨t, ht⟩ := u2Y
  obtain ⟨k, hk⟩ : ∃ k, k = (3 * X * X + a) * t := ⟨_, rfl⟩
  have hkm : Mo n (k * (2 * Y)) (3 * X * X + a) := by
    rw [hk]
    have := (Mo.rfl' (n := n) (a := 3 * X * X + a)).mul ht
    rw [Int.mul_one] at this
    exact (Mo.of_eq (by ac_rfl)).trans this
  have hs : sumR n a (some (X, Y)) (some (X, Y)) = .ok (some ((k * k - X - X) % n, (k * (X - (k * k - X - X) % n) - Y) % n)) := by
    rw [sumR_ss, if_pos rfl, if_neg (fun e => hy (h.y0.mpr ((two_zero h2).mp e))), if_neg (by simp), dv_k hn ⟨t, ht⟩ hkm]
  refine ⟨_, _, hs, ?_⟩
  have hx := h.ex
  have hyy := h.ey
  have m1 : Mo n yy (Y * (z * z * z) * (Y * (z * z * z))) := by
    rw [e1]
    exact Mo.mod.trans (hyy.mul hyy)
  have m2 : Mo n zz (z * z) := by
    rw [e2]
    exact Mo.mod
  have m3 : Mo n s (4 * (X * (z * z)) * (Y * (z * z * z) * (Y * (z * z * z)))) := by
    rw [e3]
    exact Mo.mod.trans (((Mo.rfl').mul hx).mul m1)
  have m4 : Mo n m (k * (2 * Y) * (z * z * (z * z))) := by
    rw [e4]
    refine Mo.mod.trans ?_
    refine (((Mo.rfl'.mul hx).mul hx).add ((Mo.rfl'.mul m2).mul m2)).trans ?_
    refine Mo.trans (Mo.of_eq ?_) (hkm.symm.mul Mo.rfl')
    grind
  have m7 : Mo n z3 (2 * (Y * (z * z * z)) * z) := by
    rw [e7]
    exact Mo.mod.trans ((Mo.rfl'.mul hyy).mul Mo.rfl')
  have m5 : Mo n x3 ((k * k - X - X) * (2 * (Y * (z * z * z)) * z * (2 * (Y * (z * z * z)) * z))) := by
    rw [e5]
    refine Mo.mod.trans (((m4.mul m4).sub (Mo.rfl'.mul m3)).trans (Mo.of_eq ?_))
    grind
  have m6 : Mo n y3 ((k * (X - (k * k - X - X)) - Y) * (2 * (Y * (z * z * z)) * z * (2 * (Y * (z * z * z)) * z) * (2 * (Y * (z * z * z)) * z))) := by
    rw [e6]
    refine Mo.mod.trans (((m4.mul (m3.sub m5)).sub ((Mo.rfl'.mul m1).mul m1)).trans (Mo.of_eq ?_))
    grind
  have uz3 : Un n (2 * (Y * (z * z * z)) * z) := (h2.mul (uY.mul ((h.u.mul h.u).mul h.u))).mul h.u
  refine ⟨Dg.mod hn, Dg.mod hn, by rw [e5]; exact Dg.mod hn, by rw [e6]; exact Dg.mod hn, by rw [e7]; exact Dg.mod hn, uz3.congr m7.symm, ?_, ?_⟩
  · exact m5.trans (Mo.mod.symm.mul (m7.symm.mul m7.symm))
  · refine m6.trans (Mo.mul ?_ ((m7.symm.mul m7.symm).mul m7.symm))
    exact (Mo.sub (Mo.rfl'.mul (Mo.rfl'.sub Mo.mod.symm)) Mo.rfl').trans Mo.mod.symm
/-- what is reckoned of a point and a further one -/
structure Jn (n X Y x y z p q zz lifted across up : Int) : Prop where
  ezz : zz = z * z % n
  el : lifted = q * zz * z
  ea : across = (p * zz - x) % n
  eu : up = (lifted - y) % n
section
variable {p q zz lifted across up : Int}
theorem Jn.acr (j : Jn n X Y x y z p q zz lifted across up) (h : Rep n X Y x y z) : Mo n across ((p - X) * (z * z)) := by
  rw [j.ea, j.ezz]
  exact Mo.mod.trans (((Mo.rfl'.mul Mo.mod).sub h.ex).trans (Mo.of_eq (by grind)))
theorem Jn.lif (j : Jn n X Y x y z p q zz lifted across up) : Mo n lifted (q * (z * z * z)) := by
  rw [j.el, j.ezz]
  exact ((Mo.rfl'.mul Mo.mod).mul Mo.rfl').trans (Mo.of_eq (by grind))
theorem Jn.upp (j : Jn n X Y x y z p q zz lifted across up) (h : Rep n X Y x y z) : Mo n up ((q - Y) * (z * z * z)) := by
  rw [j.eu]
  exact Mo.mod.trans ((j.lif.sub h.ey).trans (Mo.of_eq (by grind)))
theorem dg0 (hn : 0 < n) : Dg n 0 := ⟨Int.le_refl _, hn⟩
theorem sub_zero_iff {a b : Int} (ha : Dg n a) (hb : Dg n b) : Mo n (a - b) 0 ↔ a = b := by
  constructor
  · intro h
    refine ha.eq hb ?_
    have := h.add (Mo.rfl' (a := b))
    rw [Int.sub_add_cancel, Int.zero_add] at this
    exact this
  · rintro rfl
    exact Mo.of_eq (Int.sub_self _)
theorem Jn.across0 (j : Jn n X Y x y z p q zz lifted across up) (h : Rep n X Y x y z) (hn : 0 < n) (hp : Dg n p) : across = 0 ↔ X = p := by
  have uz := h.u.mul h.u
  have da : Dg n across := by rw [j.ea]; exact Dg.mod hn
  constructor
  · intro e
    have := j.acr h
    rw [e] at this
    exact ((sub_zero_iff hp h.dX).mp ((zero_unit uz).mp this.symm)).symm
  · intro e
    exact da.eq (dg0 hn) ((j.acr h).trans ((zero_unit uz).mpr ((sub_zero_iff hp h.dX).mpr e.symm)))
theorem Jn.up0 (j : Jn n X Y x y z p q zz lifted across up) (h : Rep n X Y x y z) (hn : 0 < n) (hq : Dg n q) : up = 0 ↔ Y = q := by
  have uz := (h.u.mul h.u).mul h.u
  have da : Dg n up := by rw [j.eu]; exact Dg.mod hn
  constructor
  · intro e
    have := j.upp h
    rw [e] at this
    exact ((sub_zero_iff hq h.dY).mp ((zero_unit uz).mp this.symm)).symm
  · intro e
    exact da.eq (dg0 hn) ((j.upp h).trans ((zero_unit uz).mpr ((sub_zero_iff hq h.dY).mpr e.symm)))
theorem mod0 {a : Int} : a % n = 0 ↔ Mo n a 0 := by
  unfold Mo
  rw [Int.zero_emod]
theorem Jn.opp (j : Jn n X Y x y z p q zz lifted across up) (h : Rep n X Y x y z) : (lifted + y) % n = 0 ↔ (Y + q) % n = 0 := by
  have uz := (h.u.mul h.u).mul h.u
  rw [mod0, mod0, ← zero_unit (a := Y + q) uz]
  have e : Mo n (lifted + y) ((Y + q) * (z * z * z)) := (j.lif.add h.ey).trans (Mo.of_eq (by grind))
  exact ⟨fun w => e.symm.trans w, fun w => e.trans w⟩
theorem Jn.gcd (j : Jn n X Y x y z p q zz lifted across up) (h : Rep n X Y x y z) (hn : 0 < n) : Int.gcd (p - X) n = Int.gcd across n := by
  rw [gcd_congr (j.acr h), gcd_unit hn (h.u.mul h.u)]
theorem join_br (j : Jn n X Y x y z p q zz lifted across up) (h : Rep n X Y x y z) (hn : 0 < n) (hp : Dg n p) (h0 : across ≠ 0) (hg : Int.gcd across n ≠ 1) : sumR n a (some (X, Y)) (some (p, q)) = .br (some (Int.gcd across n)) := by
  rw [sumR_ss, if_neg (fun e => h0 ((j.across0 h hn hp).mpr e))]
  unfold dv
  rw [j.gcd h hn, if_neg hg]
theorem join_ok (j : Jn n X Y x y z p q zz lifted across up) (h : Rep n X Y x y z) (hn : 0 < n) (hp : Dg n p) (h0 : across ≠ 0) (hg : Int.gcd across n = 1) {square cube bs x3 y3 z3 : Int}
    (e1 : square = across * across % n) (e2 : cube = square * across % n) (e3 : bs = x * square % n) (e4 : x3 = (up * up - cube - 2 * bs) % n) (e5 : y3 = (up * (bs - x3) - y * cube) % n) (e6 : z3 = z * across % n) :
    ∃ X3 Y3, sumR n a (some (X, Y)) (some (p, q)) = .ok (some (X3, Y3)) ∧ Rep n X3 Y3 x3 y3 z3 := by
  have ud : Un n (p - X) := (un_iff hn).mpr ((j.gcd h hn).trans hg)
  have ud2 := ud
  obtain ⟨t, ht⟩ := ud
  obtain ⟨k, hk⟩ : ∃ k, k = (q - Y) * t := ⟨_, rfl⟩
  have hkm : Mo n (k * (p - X)) (q - Y) := by
    rw [hk]
    have := (Mo.rfl' (n := n) (a := q - Y)).mul ht
    rw [Int.mul_one] at this
    exact (Mo.of_eq (by ac_rfl)).trans this
  have hs : sumR n a (some (X, Y)) (some (p, q)) = .ok (some ((k * k - X - p) % n, (k * (X - (k * k - X - p) % n) - Y) % n)) := by
    rw [sumR_ss, if_neg (fun e => h0 ((j.across0 h hn hp).mpr e)), dv_k hn ⟨t, ht⟩ hkm]
  refine ⟨_, _, hs, ?_⟩
  have ma := j.acr h
  have mu : Mo n up (k * (p - X) * (z * z * z)) := (j.upp h).trans (hkm.symm.mul Mo.rfl')
  have m1 : Mo n square ((p - X) * (z * z) * ((p - X) * (z * z))) := by
    rw [e1]
    exact Mo.mod.trans (ma.mul ma)
  have m2 : Mo n cube ((p - X) * (z * z) * ((p - X) * (z * z)) * ((p - X) * (z * z))) := by
    rw [e2]
    exact Mo.mod.trans (m1.mul ma)
  have m3 : Mo n bs (X * (z * z) * ((p - X) * (z * z) * ((p - X) * (z * z)))) := by
    rw [e3]
    exact Mo.mod.trans (h.ex.mul m1)
  have m6 : Mo n z3 (z * ((p - X) * (z * z))) := by
    rw [e6]
    exact Mo.mod.trans (Mo.rfl'.mul ma)
  have m4 : Mo n x3 ((k * k - X - p) * (z * ((p - X) * (z * z)) * (z * ((p - X) * (z * z))))) := by
    rw [e4]
    refine Mo.mod.trans ((((mu.mul mu).sub m2).sub (Mo.rfl'.mul m3)).trans (Mo.of_eq ?_))
    grind
  have m5 : Mo n y3 ((k * (X - (k * k - X - p)) - Y) * (z * ((p - X) * (z * z)) * (z * ((p - X) * (z * z))) * (z * ((p - X) * (z * z))))) := by
    rw [e5]
    refine Mo.mod.trans (((mu.mul (m3.sub m4)).sub (h.ey.mul m2)).trans (Mo.of_eq ?_))
    grind
  have uz3 : Un n (z * ((p - X) * (z * z))) := h.u.mul (ud2.mul (h.u.mul h.u))
  refine ⟨Dg.mod hn, Dg.mod hn, by rw [e4]; exact Dg.mod hn, by rw [e5]; exact Dg.mod hn, by rw [e6]; exact Dg.mod hn, uz3.congr m6.symm, ?_, ?_⟩
  · exact m4.trans (Mo.mod.symm.mul (m6.symm.mul m6.symm))
  · refine m5.trans (Mo.mul ?_ ((m6.symm.mul m6.symm).mul m6.symm))
    exact (Mo.sub (Mo.rfl'.mul (Mo.rfl'.sub Mo.mod.symm)) Mo.rfl').trans Mo.mod.symm
end
/-- from three letters to two -/
theorem settle (h : Rep n X Y x y z) (hn : 0 < n) {t : Int} (ht : Inv n z t) : x * (t * t % n) % n = X ∧ y * (t * t % n) * t % n = Y := by
  have e1 : Mo n (z * t) 1 := ht.2
  constructor
  · refine (Dg.mod hn).eq h.dX (Mo.mod.trans ((h.ex.mul Mo.mod).trans ?_))
    have := (Mo.rfl' (a := X)).mul (e1.mul e1)
    rw [Int.mul_one, Int.mul_one] at this
    exact (Mo.of_eq (by grind)).trans this
  · refine (Dg.mod hn).eq h.dY (Mo.mod.trans (((h.ey.mul Mo.mod).mul Mo.rfl').trans ?_))
    have := (Mo.rfl' (a := Y)).mul ((e1.mul e1).mul e1)
    rw [Int.mul_one, Int.mul_one, Int.mul_one] at this
    exact (Mo.of_eq (by grind)).trans this
/-! ### walks -/
/-- one figure -/
noncomputable def st (n a : Int) (p : Int × Int) (b : Bool) (P : Pt) : R :=
  match sumR n a P P with
  | .br d => .br d
  | .ok P1 => if b = true then sumR n a P1 (some p) else .ok P1
noncomputable def wk (n a : Int) (p : Int × Int) (k : Nat) : Nat → Pt → R
  | 0, P => .ok P
  | j + 1, P => match st n a p (k / 2 ^ j % 2 == 1) P with
    | .br d => .br d
    | .ok P' => wk n a p k j P'
/-- sizes -/
def PtOk (n : Int) : Pt → Prop
  | none => True
  | some P => Dg n P.1 ∧ Dg n P.2
def ROk (n : Int) : R → Prop
  | .ok P => PtOk n P
  | .br none => True
  | .br (some d) => 0 ≤ d ∧ d ≤ n
theorem dv_ok (hn : 0 < n) {x y z u l : Int} : ROk n (dv n x y z u l) := by
  unfold dv
  split
  · exact ⟨Dg.mod hn, Dg.mod hn⟩
  · refine ⟨by omega, ?_⟩
    have := Int.gcd_le_right l hn
    exact this
theorem sum_ok (hn : 0 < n) {P S : Pt} (hP : PtOk n P) (hS : PtOk n S) : ROk n (sumR n a P S) := by
  match P, S, hP, hS with
  | none, Q, _, hS => exact hS
  | some P, none, hP, _ => exact hP
  | some (x, y), some (z, w), hP, hS =>
    rw [sumR_ss]
    split
    · split
      · trivial
      · split
        · trivial
        · exact dv_ok hn
    · exact dv_ok hn
end
end K45M
/-! Sums of two cubes, products of three lines: plain mathematics. -/
set_option linter.all false
namespace K51M
/-- in the order of pairs -/
def Lt (p q : Int × Int) : Prop := p.1 < q.1 ∨ (p.1 = q.1 ∧ p.2 < q.2)
theorem Lt.trans {p q r : Int × Int} (h : Lt p q) (k : Lt q r) : Lt p r := by
  unfold Lt at *
  omega
theorem Lt.irr {p : Int × Int} (h : Lt p p) : False := by
  unfold Lt at h
  omega
/-- strictly ascending lists with the same members are one -/
theorem uniq : ∀ {l m : List (Int × Int)}, l.Pairwise Lt → m.Pairwise Lt → (∀ p, p ∈ l ↔ p ∈ m) → l = m
  | [], [], _, _, _ => rfl
  | [], y :: m, _, _, h => absurd ((h y).mpr List.mem_cons_self) (by simp)
  | x :: l, [], _, _, h => absurd ((h x).mp List.mem_cons_self) (by simp)
  | x :: l, y :: m, hl, hm, h => by
    obtain ⟨hx, hl2⟩ := List.pairwise_cons.mp hl
    obtain ⟨hy, hm2⟩ := List.pairwise_cons.mp hm
    have e : x = y := by
      rcases List.mem_cons.mp ((h x).mp List.mem_cons_self) with e | q
      · exact e
      · rcases List.mem_cons.mp ((h y).mpr List.mem_cons_self) with e | q2
        · exact e.symm
        · exact (Lt.irr ((hx _ q2).trans (hy _ q))).elim
    subst e
    have key : l = m := uniq hl2 hm2 fun p => ⟨fun hp => ?_, fun hp => ?_⟩
    · rw [key]
    · rcases List.mem_cons.mp ((h p).mp (List.mem_cons_of_mem _ hp)) with e | q
      · exact (Lt.irr (e ▸ hx _ hp : Lt x x)).elim
      · exact q
    · rcases List.mem_cons.mp ((h p).mpr (List.mem_cons_of_mem _ hp)) with e | q
      · exact (Lt.irr (e ▸ hy _ hp : Lt x x)).elim
      · exact q
/-- ascending, no one twice: strictly ascending -/
theorem strict {l : List (Int × Int)} (h : l.Pairwise fun p q => ¬ Lt q p) (n : l.Nodup) : l.Pairwise Lt := by
  refine List.Pairwise.imp₂ (S := fun p q => p ≠ q) (fun a b => ?_) h n
  rintro h1 h2
  rcases a with ⟨a1, a2⟩
  rcases b with ⟨b1, b2⟩
  have h2 : ¬ (a1 = b1 ∧ a2 = b2) := fun z => h2 (by rw [z.1, z.2])
  unfold Lt at *
  simp only at *
  omega
/-! ### cubes -/
theorem cube_mono {a b : Int} (h : a ^ 3 = b ^ 3) : a = b := by
  have e : (a - b) * (a * a + a * b + b * b) = 0 := by
    have : (a - b) * (a * a + a * b + b * b) = a ^ 3 - b ^ 3 := by grind
    rw [this, h]
    omega
  rcases Int.mul_eq_zero.mp e with z | z
  · omega
  · have h4 : (2 * a + b) * (2 * a + b) + 3 * (b * b) = 0 := by
      have : (2 * a + b) * (2 * a + b) + 3 * (b * b) = 4 * (a * a + a * b + b * b) := by grind
      rw [this, z]
      rfl
    have p1 : 0 ≤ (2 * a + b) * (2 * a + b) := by
      rcases Int.le_total 0 (2 * a + b) with q | q
      · exact Int.mul_nonneg q q
      · exact Int.mul_nonneg_of_nonpos_of_nonpos q q
    have p2 : 0 ≤ b * b := by
      rcases Int.le_total 0 b with q | q
      · exact Int.mul_nonneg q q
      · exact Int.mul_nonneg_of_nonpos_of_nonpos q q
    have hb : b * b = 0 := by omega
    have ha : (2 * a + b) * (2 * a + b) = 0 := by omega
    rcases Int.mul_eq_zero.mp hb with b0 | b0 <;> rcases Int.mul_eq_zero.mp ha with a0 | a0 <;> omega
theorem sq_nn (a : Int) : 0 ≤ a * a := by
  rcases Int.le_total 0 a with q | q
  · exact Int.mul_nonneg q q
  · exact Int.mul_nonneg_of_nonpos_of_nonpos q q
theorem ab_le {a b : Int} (h : a * a ≤ b * b) (hb : 0 ≤ b) : -b ≤ a ∧ a ≤ b := by
  constructor
  · refine Int.not_lt.mp fun z => ?_
    have : b * b < a * a := by
      have h1 : b * b ≤ b * (-a - 1) := Int.mul_le_mul_of_nonneg_left (by omega) hb
      have h2 : b * (-a - 1) ≤ (-a) * (-a - 1) := Int.mul_le_mul_of_nonneg_right (by omega) (by omega)
      have h3 : (-a) * (-a - 1) = a * a + a := by grind
      omega
    omega
  · refine Int.not_lt.mp fun z => ?_
    have : b * b < a * a := by
      have h1 : b * b ≤ b * (a - 1) := Int.mul_le_mul_of_nonneg_left (by omega) hb
      have h2 : b * (a - 1) ≤ a * (a - 1) := Int.mul_le_mul_of_nonneg_right (by omega) (by omega)
      have h3 : a * (a - 1) = a * a - a := by grind
      omega
    omega
def Sol (n : Int) (p : Int × Int) : Prop := p.1 ^ 3 + p.2 ^ 3 = n
theorem sol_fac {n x y : Int} (h : x ^ 3 + y ^ 3 = n) : (x + y) * (x * x - x * y + y * y) = n := by
  rw [← h]
  grind
/-- where solutions lie -/
theorem sol_bound {n x y : Int} (h : x ^ 3 + y ^ 3 = n) (hn : n ≠ 0) : x * x ≤ 4 * n.natAbs ∧ (x + y) * (x + y) * ((x + y).natAbs : Int) ≤ 4 * n.natAbs ∧ (x + y) ∣ n ∧ x + y ≠ 0 ∧ (0 < n ↔ 0 < x + y) := by
  have f := sol_fac h
  have k0 : x * x ≤ 4 * (x * x - x * y + y * y) := by
    have e : 4 * (x * x - x * y + y * y) = x * x + (2 * x - y) * (2 * x - y) + (y * y + y * y + y * y - x * x) := by grind
    have e2 : 4 * (x * x - x * y + y * y) = 3 * (x * x) + (x - 2 * y) * (x - 2 * y) := by grind
    have := sq_nn (x - 2 * y)
    have := sq_nn x
    omega
  have k1 : (x + y) * (x + y) ≤ 4 * (x * x - x * y + y * y) := by
    have e2 : 4 * (x * x - x * y + y * y) = (x + y) * (x + y) + 3 * ((x - y) * (x - y)) := by grind
    have := sq_nn (x - y)
    omega
  have hs : x + y ≠ 0 := fun z => hn (by rw [← f, z, Int.zero_mul])
  have hq0 : x * x - x * y + y * y ≠ 0 := fun z => hn (by rw [← f, z, Int.mul_zero])
  have hq : 0 < x * x - x * y + y * y := by
    have := sq_nn x
    omega
  generalize x * x - x * y + y * y = q at *
  have na : n.natAbs = (x + y).natAbs * q.natAbs := by rw [← f, Int.natAbs_mul]
  have hqn : (q.natAbs : Int) = q := by omega
  have s1 : (1 : Int) ≤ ((x + y).natAbs : Int) := by omega
  have ni : (n.natAbs : Int) = ((x + y).natAbs : Int) * q := by rw [na, Int.natCast_mul, hqn]
  have q1 : q ≤ (n.natAbs : Int) := by
    rw [ni]
    have := Int.mul_le_mul_of_nonneg_right s1 (show (0 : Int) ≤ q by omega)
    omega
  refine ⟨by omega, ?_, ⟨q, f.symm⟩, hs, ?_⟩
  · rw [ni]
    have := Int.mul_le_mul_of_nonneg_right k1 (show (0 : Int) ≤ ((x + y).natAbs : Int) by omega)
    have e : 4 * q * ((x + y).natAbs : Int) = 4 * (((x + y).natAbs : Int) * q) := by ac_rfl
    omega
  · constructor
    · intro h0
      refine Int.not_le.mp fun z => ?_
      have := Int.mul_nonneg (show 0 ≤ -(x + y) by omega) (show 0 ≤ q by omega)
      rw [Int.neg_mul, f] at this
      omega
    · intro h0
      have := Int.mul_pos h0 hq
      omega
/-- the two ways to a solution with the sum s -/
theorem sol_iff {n s : Int} (hs : s ≠ 0) (hd : s ∣ n) (x y : Int) : (x ^ 3 + y ^ 3 = n ∧ x + y = s) ↔ (x + y = s ∧ 3 * (x * y) = s * s - n / s) := by
  obtain ⟨q, rfl⟩ := hd
  have e : s * q / s = q := Int.mul_ediv_cancel_left _ hs
  rw [e]
  constructor
  · rintro ⟨h, rfl⟩
    refine ⟨rfl, ?_⟩
    have f := sol_fac h
    have := Int.eq_of_mul_eq_mul_left hs f
    rw [← this]
    grind
  · rintro ⟨rfl, h⟩
    refine ⟨?_, rfl⟩
    have : q = (x + y) * (x + y) - 3 * (x * y) := by omega
    rw [this]
    grind
/-! ### one sum -/
/-- just the solutions with the sum s -/
structure Cs (n s : Int) (e : List (Int × Int)) : Prop where
  mem : ∀ x y : Int, (x, y) ∈ e ↔ (x ^ 3 + y ^ 3 = n ∧ x + y = s)
  nodup : e.Nodup
  len : e.length ≤ 2
theorem Cs.none {n s : Int} (h : ∀ x y : Int, x ^ 3 + y ^ 3 = n → x + y = s → False) : Cs n s [] :=
  ⟨fun x y => ⟨fun z => (by cases z), fun z => (h x y z.1 z.2).elim⟩, List.nodup_nil, by decide⟩
theorem cs_dvd {n s : Int} (h : ¬ s ∣ n) : Cs n s [] := Cs.none fun x y e1 e2 => h (e2 ▸ ⟨_, (sol_fac e1).symm⟩)
theorem cs_three {n s : Int} (hs : s ≠ 0) (hd : s ∣ n) (h : ¬ (s * s - n / s) % 3 = 0) : Cs n s [] := Cs.none fun x y e1 e2 => by
  have := ((sol_iff hs hd x y).mp ⟨e1, e2⟩).2
  omega
theorem cs_sq {n s p : Int} (hs : s ≠ 0) (hd : s ∣ n) (hp : 3 * p = s * s - n / s) (h : ¬ ∃ r : Int, r * r = s * s - 4 * p) : Cs n s [] := Cs.none fun x y e1 e2 => by
  have h2 := ((sol_iff hs hd x y).mp ⟨e1, e2⟩).2
  have : x * y = p := by omega
  exact h ⟨x - y, by rw [← this, ← e2]; grind⟩
theorem sq_eq {a b : Int} (h : a * a = b * b) (hb : 0 ≤ b) : a = b ∨ a = -b := by
  have e : (a - b) * (a + b) = 0 := by
    have : (a - b) * (a + b) = a * a - b * b := by grind
    omega
  rcases Int.mul_eq_zero.mp e with z | z
  · exact Or.inl (by omega)
  · exact Or.inr (by omega)
theorem cs_odd {n s p r : Int} (hs : s ≠ 0) (hd : s ∣ n) (hp : 3 * p = s * s - n / s) (hr : r * r = s * s - 4 * p) (h0 : 0 ≤ r) (h : ¬ (s - r) % 2 = 0) : Cs n s [] := Cs.none fun x y e1 e2 => by
  have h2 := ((sol_iff hs hd x y).mp ⟨e1, e2⟩).2
  have h3 : x * y = p := by omega
  have h4 : (x - y) * (x - y) = r * r := by
    rw [hr, ← h3, ← e2]
    grind
  rcases sq_eq h4 h0 with z | z <;> omega
theorem cs_yes {n s p r : Int} (hs : s ≠ 0) (hd : s ∣ n) (hp : 3 * p = s * s - n / s) (hr : r * r = s * s - 4 * p) (h0 : 0 ≤ r) (h : (s - r) % 2 = 0) :
    ∀ x y : Int, (x ^ 3 + y ^ 3 = n ∧ x + y = s) ↔ ((x = (s - r) / 2 ∧ y = s - (s - r) / 2) ∨ (y = (s - r) / 2 ∧ x = s - (s - r) / 2)) := by
  intro x y
  rw [sol_iff hs hd x y]
  obtain ⟨q, hq⟩ : ∃ q, (s - r) / 2 = q := ⟨_, rfl⟩
  rw [hq]
  have e : s - r = 2 * q := by omega
  constructor
  · rintro ⟨h1, h2⟩
    have h3 : x * y = p := by omega
    have h4 : (x - y) * (x - y) = r * r := by
      rw [hr, ← h3, ← h1]
      grind
    rcases sq_eq h4 h0 with z | z
    · right
      omega
    · left
      omega
  · intro z
    have k : q * (s - q) = p := by
      have : r = s - 2 * q := by omega
      rw [this] at hr
      have : (s - 2 * q) * (s - 2 * q) = s * s - 4 * (q * (s - q)) := by grind
      omega
    rcases z with ⟨rfl, rfl⟩ | ⟨rfl, rfl⟩
    · refine ⟨by omega, ?_⟩
      rw [k, hp]
    · refine ⟨by omega, ?_⟩
      rw [Int.mul_comm (s - y) y, k, hp]
theorem cs_two {n s p r : Int} (hs : s ≠ 0) (hd : s ∣ n) (hp : 3 * p = s * s - n / s) (hr : r * r = s * s - 4 * p) (h0 : 0 ≤ r) (h : (s - r) % 2 = 0) (hx : ¬ (s - r) / 2 = s - (s - r) / 2) :
    Cs n s [((s - r) / 2, s - (s - r) / 2), (s - (s - r) / 2, (s - r) / 2)] := by
  refine ⟨fun x y => ?_, ?_, by show 2 ≤ 2; decide⟩
  · rw [cs_yes hs hd hp hr h0 h x y, List.mem_cons, List.mem_singleton, Prod.mk.injEq, Prod.mk.injEq]
    constructor
    · rintro (⟨a, b⟩ | ⟨a, b⟩)
      · exact Or.inl ⟨a, b⟩
      · exact Or.inr ⟨b, a⟩
    · rintro (⟨a, b⟩ | ⟨a, b⟩)
      · exact Or.inl ⟨a, b⟩
      · exact Or.inr ⟨b, a⟩
  · refine List.nodup_cons.mpr ⟨fun z => ?_, List.nodup_cons.mpr ⟨fun z => (by cases z), List.nodup_nil⟩⟩
    rw [List.mem_singleton, Prod.mk.injEq] at z
    exact hx z.1
theorem cs_one {n s p r : Int} (hs : s ≠ 0) (hd : s ∣ n) (hp : 3 * p = s * s - n / s) (hr : r * r = s * s - 4 * p) (h0 : 0 ≤ r) (h : (s - r) % 2 = 0) (hx : (s - r) / 2 = s - (s - r) / 2) :
    Cs n s [((s - r) / 2, (s - r) / 2)] := by
  refine ⟨fun x y => ?_, List.nodup_cons.mpr ⟨fun z => (by cases z), List.nodup_nil⟩, by show 1 ≤ 2; decide⟩
  rw [cs_yes hs hd hp hr h0 h x y, List.mem_singleton, Prod.mk.injEq]
  omega
/-! ### all sums up to k -/
def sgn1 (n : Int) : Int := if 0 < n then 1 else -1
structure Pr (n : Int) (k : Nat) (f : List (Int × Int)) : Prop where
  mem : ∀ x y : Int, (x, y) ∈ f ↔ (x ^ 3 + y ^ 3 = n ∧ (x + y).natAbs ≤ k)
  nodup : f.Nodup
  len : f.length ≤ 2 * k
theorem Pr.zero {n : Int} (hn : n ≠ 0) : Pr n 0 [] := by
  refine ⟨fun x y => ⟨fun z => (by cases z), fun z => ?_⟩, List.nodup_nil, by decide⟩
  have := (sol_bound z.1 hn).2.2.2.1
  omega
theorem Pr.step {n : Int} {k : Nat} {f e : List (Int × Int)} (hn : n ≠ 0) (h : Pr n k f) (c : Cs n (sgn1 n * ((k : Int) + 1)) e) : Pr n (k + 1) (f ++ e) := by
  refine ⟨fun x y => ?_, ?_, ?_⟩
  · rw [List.mem_append, h.mem, c.mem]
    constructor
    · rintro (⟨a, b⟩ | ⟨a, b⟩)
      · exact ⟨a, by omega⟩
      · refine ⟨a, ?_⟩
        rw [b]
        unfold sgn1
        split <;> omega
    · rintro ⟨a, b⟩
      by_cases q : (x + y).natAbs ≤ k
      · exact Or.inl ⟨a, q⟩
      · refine Or.inr ⟨a, ?_⟩
        have h5 := (sol_bound a hn).2.2.2.2
        unfold sgn1
        split <;> omega
  · refine List.nodup_append.mpr ⟨h.nodup, c.nodup, ?_⟩
    rintro ⟨x, y⟩ h1 b h2 rfl
    have a1 := ((h.mem x y).mp h1).2
    have a2 := ((c.mem x y).mp h2).2
    rw [a2] at a1
    unfold sgn1 at a1
    split at a1 <;> omega
  · rw [List.length_append]
    have := h.len
    have := c.len
    omega
theorem pow_le3 {a b : Int} (h : 0 ≤ a) (k : a ≤ b) : a ^ 3 ≤ b ^ 3 := by
  have e : b ^ 3 - a ^ 3 = (b - a) * (a * a + a * b + b * b) := by grind
  have h1 := Int.mul_nonneg h h
  have h2 := Int.mul_nonneg h (show 0 ≤ b by omega)
  have h3 := Int.mul_nonneg (show 0 ≤ b by omega) (show 0 ≤ b by omega)
  have := Int.mul_nonneg (show 0 ≤ b - a by omega) (show 0 ≤ a * a + a * b + b * b by omega)
  omega
theorem Pr.full {n : Int} {k : Nat} {f : List (Int × Int)} (hn : n ≠ 0) (h : Pr n k f) (hk : 4 * (n.natAbs : Int) < ((k : Int) + 1) ^ 3) : ∀ x y : Int, (x, y) ∈ f ↔ x ^ 3 + y ^ 3 = n := by
  intro x y
  rw [h.mem]
  constructor
  · exact fun z => z.1
  · intro z
    refine ⟨z, ?_⟩
    have b := (sol_bound z hn).2.1
    have e : (x + y) * (x + y) * ((x + y).natAbs : Int) = ((x + y).natAbs : Int) ^ 3 := by
      generalize x + y = s
      have : s * s = (s.natAbs : Int) * (s.natAbs : Int) := by
        rw [← Int.natAbs_mul_self' s]
      rw [this]
      grind
    rw [e] at b
    refine Nat.not_lt.mp fun w => ?_
    have := pow_le3 (a := (k : Int) + 1) (b := ((x + y).natAbs : Int)) (by omega) (by omega)
    omega
/-! ### products of lines -/
def Li (p q r n x y : Int) : Prop := (x - p * y) * (x - q * y) * (x - r * y) = n
theorem li_dvd {p q r n x y : Int} (h : Li p q r n x y) : (x - p * y) ∣ n ∧ (x - q * y) ∣ n := by
  unfold Li at h
  exact ⟨⟨(x - q * y) * (x - r * y), by rw [← h, Int.mul_assoc]⟩, ⟨(x - p * y) * (x - r * y), by rw [← h]; ac_rfl⟩⟩
theorem dvd_le {a n : Int} (h : a ∣ n) (hn : n ≠ 0) : a.natAbs ≤ n.natAbs ∧ a ≠ 0 :=
  ⟨Nat.le_of_dvd (by omega) (Int.natAbs_dvd_natAbs.mpr h), fun z => hn (Int.zero_dvd.mp (z ▸ h))⟩
theorem li_bound {p q r n x y : Int} (h : Li p q r n x y) (hn : n ≠ 0) (hpq : p ≠ q) : (x - p * y).natAbs ≤ n.natAbs ∧ (x - q * y).natAbs ≤ n.natAbs ∧ y.natAbs ≤ 2 * n.natAbs := by
  obtain ⟨a, b⟩ := li_dvd h
  have a1 := (dvd_le a hn).1
  have b1 := (dvd_le b hn).1
  refine ⟨a1, b1, ?_⟩
  have e : (q - p) * y = (x - p * y) - (x - q * y) := by grind
  have h1 : ((q - p) * y).natAbs ≤ 2 * n.natAbs := by
    rw [e]
    omega
  rw [Int.natAbs_mul] at h1
  have h2 : 1 * y.natAbs ≤ (q - p).natAbs * y.natAbs := Nat.mul_le_mul_right _ (by omega)
  omega
/-- the divisors, as the program finds them -/
def dvs (n : Int) : Nat → List Int
  | 0 => []
  | k + 1 => dvs n k ++ (if n % ((k : Int) + 1) = 0 then (if ((k : Int) + 1) * ((k : Int) + 1) = n then [(k : Int) + 1, -((k : Int) + 1)] else [(k : Int) + 1, -((k : Int) + 1), n.fdiv ((k : Int) + 1), (-n).fdiv ((k : Int) + 1)]) else [])
theorem dvs_len (n : Int) : ∀ k, (dvs n k).length ≤ 4 * k
  | 0 => Nat.le_refl _
  | k + 1 => by
    have := dvs_len n k
    unfold dvs
    rw [List.length_append]
    split
    · split <;> (simp only [List.length_cons, List.length_nil]; omega)
    · simp only [List.length_nil]
      omega
def dvOk (n r : Nat) : Bool := decide ((dvs n r).Nodup) && decide ((dvs n r).length ≤ 24) && (List.range 121).all fun i => decide ((((i : Int) - 60 ∈ dvs n r) ↔ ((i : Int) - 60) ∣ (n : Int)))
theorem dv_tab : ∀ n, n < 61 → n ≠ 0 → ∀ r, r < 8 → r * r ≤ n → n < (r + 1) * (r + 1) → dvOk n r = true := by decide +kernel
theorem dv_is {n r : Nat} (h0 : n ≠ 0) (h : n ≤ 60) (h1 : r * r ≤ n) (h2 : n < (r + 1) * (r + 1)) : (dvs n r).Nodup ∧ (dvs n r).length ≤ 24 ∧ ∀ d : Int, d ∈ dvs n r ↔ d ∣ (n : Int) := by
  have hr : r < 8 := Nat.not_le.mp fun z => by
    have := Nat.mul_le_mul z z
    omega
  have t := dv_tab n (by omega) h0 r hr h1 h2
  unfold dvOk at t
  rw [Bool.and_eq_true, Bool.and_eq_true, decide_eq_true_iff, decide_eq_true_iff, List.all_eq_true] at t
  refine ⟨t.1.1, t.1.2, fun d => ?_⟩
  by_cases hd : d.natAbs ≤ 60
  · have := of_decide_eq_true (t.2 (d + 60).toNat (List.mem_range.mpr (by omega)))
    rw [show (((d + 60).toNat : Nat) : Int) - 60 = d by omega] at this
    exact this
  · constructor
    · intro hm
      exfalso
      have key : ∀ n, n < 61 → n ≠ 0 → ∀ r, r < 8 → ∀ d ∈ dvs (n : Nat) r, d.natAbs ≤ 60 := by decide +kernel
      exact hd (key n (by omega) h0 r hr d hm)
    · intro hm
      have := (dvd_le hm (by omega)).1
      omega
section
variable {p q r n : Int} {D : List Int}
/-- what has been found at the pair (i, j) of divisors -/
structure Pq (p q r n : Int) (D : List Int) (i j : Nat) (f : List (Int × Int)) : Prop where
  mem : ∀ x y : Int, (x, y) ∈ f ↔ (Li p q r n x y ∧ ((x - p * y) ∈ D.take i ∨ (D[i]? = some (x - p * y) ∧ (x - q * y) ∈ D.take j)))
  nodup : f.Nodup
  len : f.length ≤ i * 24 + j
theorem Pq.zero : Pq p q r n D 0 0 [] := ⟨fun x y => ⟨fun z => (by cases z), fun z => (by simp at z)⟩, List.nodup_nil, by decide⟩
theorem take_mem {A : Type} {D : List A} {i : Nat} {u : A} (h : D[i]? = some u) (x : A) : x ∈ D.take (i + 1) ↔ x ∈ D.take i ∨ x = u := by
  rw [List.take_succ, h, List.mem_append]
  simp
theorem Pq.skip {i j : Nat} {f : List (Int × Int)} {u v : Int} (h : Pq p q r n D i j f) (hu : D[i]? = some u) (hv : D[j]? = some v) (no : ∀ x y, Li p q r n x y → x - p * y = u → x - q * y = v → False) : Pq p q r n D i (j + 1) f := by
  refine ⟨fun x y => ?_, h.nodup, by have := h.len; omega⟩
  rw [h.mem, take_mem hv, hu]
  constructor
  · rintro ⟨a, b | ⟨b, c⟩⟩
    · exact ⟨a, Or.inl b⟩
    · exact ⟨a, Or.inr ⟨b, Or.inl c⟩⟩
  · rintro ⟨a, b | ⟨b, c | c⟩⟩
    · exact ⟨a, Or.inl b⟩
    · exact ⟨a, Or.inr ⟨b, c⟩⟩
    · exact (no x y a (Option.some.inj b).symm c).elim
theorem nodup_take {i : Nat} {u : Int} (hd : D.Nodup) (h : D[i]? = some u) : u ∉ D.take i := by
  intro hm
  obtain ⟨k, hk⟩ := List.mem_iff_getElem?.mp hm
  have hk2 : k < i := by
    have := (List.getElem?_eq_some_iff.mp hk).1
    rw [List.length_take] at this
    omega
  rw [List.getElem?_take_of_lt hk2] at hk
  have e := hk.trans h.symm
  have h0 : k < D.length := (List.getElem?_eq_some_iff.mp hk).1
  have := (List.getElem?_inj h0 hd).mp e
  omega
theorem Pq.add {i j : Nat} {f : List (Int × Int)} {u v x y : Int} (h : Pq p q r n D i j f) (hd : D.Nodup) (hpq : p ≠ q) (hu : D[i]? = some u) (hv : D[j]? = some v) (hs : Li p q r n x y) (ex : x - p * y = u) (ey : x - q * y = v) : Pq p q r n D i (j + 1) (f ++ [(x, y)]) := by
  have one : ∀ x' y', x' - p * y' = u → x' - q * y' = v → x' = x ∧ y' = y := by
    intro x' y' e1 e2
    have e : (q - p) * (y' - y) = 0 := by
      have : (q - p) * (y' - y) = ((x' - p * y') - (x' - q * y')) - ((x - p * y) - (x - q * y)) := by grind
      rw [this, e1, e2, ex, ey]
      omega
    have ey2 : y' = y := by
      rcases Int.mul_eq_zero.mp e with z | z <;> omega
    subst ey2
    exact ⟨by omega, rfl⟩
  refine ⟨fun x' y' => ?_, ?_, ?_⟩
  · rw [List.mem_append, h.mem, take_mem hv, hu, List.mem_singleton, Prod.mk.injEq]
    constructor
    · rintro (⟨a, b | ⟨b, c⟩⟩ | ⟨rfl, rfl⟩)
      · exact ⟨a, Or.inl b⟩
      · exact ⟨a, Or.inr ⟨b, Or.inl c⟩⟩
      · exact ⟨hs, Or.inr ⟨by rw [ex], Or.inr ey⟩⟩
    · rintro ⟨a, b | ⟨b, c | c⟩⟩
      · exact Or.inl ⟨a, Or.inl b⟩
      · exact Or.inl ⟨a, Or.inr ⟨b, c⟩⟩
      · exact Or.inr (one x' y' (Option.some.inj b).symm c)
  · refine List.nodup_append.mpr ⟨h.nodup, List.nodup_cons.mpr ⟨fun z => (by cases z), List.nodup_nil⟩, ?_⟩
    rintro ⟨a1, a2⟩ ha b hb rfl
    rw [List.mem_singleton, Prod.mk.injEq] at hb
    obtain ⟨rfl, rfl⟩ := hb
    obtain ⟨-, z | ⟨-, z⟩⟩ := (h.mem a1 a2).mp ha
    · rw [ex] at z
      exact nodup_take hd hu z
    · rw [ey] at z
      exact nodup_take hd hv z
  · rw [List.length_append]
    have := h.len
    simp only [List.length_cons, List.length_nil]
    omega
theorem Pq.next {i : Nat} {f : List (Int × Int)} {u : Int} (h : Pq p q r n D i D.length f) (hu : D[i]? = some u) (hl : D.length ≤ 24) (hD : ∀ d : Int, d ∣ n → d ∈ D) : Pq p q r n D (i + 1) 0 f := by
  refine ⟨fun x y => ?_, h.nodup, by have := h.len; omega⟩
  rw [h.mem, take_mem hu, hu, List.take_length, List.take_zero]
  constructor
  · rintro ⟨a, b | ⟨b, c⟩⟩
    · exact ⟨a, Or.inl (Or.inl b)⟩
    · exact ⟨a, Or.inl (Or.inr (Option.some.inj b).symm)⟩
  · rintro ⟨a, (b | b) | ⟨-, c⟩⟩
    · exact ⟨a, Or.inl b⟩
    · exact ⟨a, Or.inr ⟨by rw [b], hD _ (li_dvd a).2⟩⟩
    · cases c
theorem Pq.full {f : List (Int × Int)} (h : Pq p q r n D D.length 0 f) (hD : ∀ d : Int, d ∣ n → d ∈ D) : ∀ x y : Int, (x, y) ∈ f ↔ Li p q r n x y := by
  intro x y
  rw [h.mem, List.take_length]
  exact ⟨fun z => z.1, fun z => ⟨z, Or.inl (hD _ (li_dvd z).1)⟩⟩
/-- what the law has found when it stands at (Y, X) -/
structure Lw (p q r n Y X : Int) (f : List (Int × Int)) : Prop where
  mem : ∀ x y : Int, (x, y) ∈ f ↔ (Li p q r n x y ∧ (y < Y ∨ (y = Y ∧ x < X)))
  nodup : f.Nodup
theorem Lw.start (hn : n ≠ 0) (hpq : p ≠ q) : Lw p q r n (-2 * (n.natAbs : Int)) (max (p * (-2 * (n.natAbs : Int))) (q * (-2 * (n.natAbs : Int))) - n.natAbs) [] := by
  refine ⟨fun x y => ⟨fun z => (by cases z), fun z => ?_⟩, List.nodup_nil⟩
  obtain ⟨a, b | ⟨rfl, b⟩⟩ := z
  · have := (li_bound a hn hpq).2.2
    omega
  · have := li_bound a hn hpq
    omega
theorem Lw.skip {Y X : Int} {f : List (Int × Int)} (h : Lw p q r n Y X f) (no : ¬ Li p q r n X Y) : Lw p q r n Y (X + 1) f := by
  refine ⟨fun x y => ?_, h.nodup⟩
  rw [h.mem]
  constructor
  · rintro ⟨a, b | b⟩
    · exact ⟨a, Or.inl b⟩
    · exact ⟨a, Or.inr (by omega)⟩
  · rintro ⟨a, b | ⟨rfl, b⟩⟩
    · exact ⟨a, Or.inl b⟩
    · rcases (show x < X ∨ x = X by omega) with z | rfl
      · exact ⟨a, Or.inr ⟨rfl, z⟩⟩
      · exact (no a).elim
theorem Lw.add {Y X : Int} {f : List (Int × Int)} (h : Lw p q r n Y X f) (hs : Li p q r n X Y) : Lw p q r n Y (X + 1) (f ++ [(X, Y)]) := by
  refine ⟨fun x y => ?_, ?_⟩
  · rw [List.mem_append, h.mem, List.mem_singleton, Prod.mk.injEq]
    constructor
    · rintro (⟨a, b | b⟩ | ⟨rfl, rfl⟩)
      · exact ⟨a, Or.inl b⟩
      · exact ⟨a, Or.inr (by omega)⟩
      · exact ⟨hs, Or.inr ⟨rfl, by omega⟩⟩
    · rintro ⟨a, b | ⟨rfl, b⟩⟩
      · exact Or.inl ⟨a, Or.inl b⟩
      · rcases (show x < X ∨ x = X by omega) with z | rfl
        · exact Or.inl ⟨a, Or.inr ⟨rfl, z⟩⟩
        · exact Or.inr ⟨rfl, rfl⟩
  · refine List.nodup_append.mpr ⟨h.nodup, List.nodup_cons.mpr ⟨fun z => (by cases z), List.nodup_nil⟩, ?_⟩
    rintro ⟨a1, a2⟩ ha b hb rfl
    rw [List.mem_singleton, Prod.mk.injEq] at hb
    obtain ⟨rfl, rfl⟩ := hb
    have := ((h.mem _ _).mp ha).2
    omega
theorem Lw.next {Y X : Int} {f : List (Int × Int)} (h : Lw p q r n Y X f) (hn : n ≠ 0) (hpq : p ≠ q) (hX : min (p * Y) (q * Y) + n.natAbs + 1 ≤ X) : Lw p q r n (Y + 1) (max (p * (Y + 1)) (q * (Y + 1)) - n.natAbs) f := by
  refine ⟨fun x y => ?_, h.nodup⟩
  rw [h.mem]
  constructor
  · rintro ⟨a, b | b⟩
    · exact ⟨a, Or.inl (by omega)⟩
    · exact ⟨a, Or.inl (by omega)⟩
  · rintro ⟨a, b | ⟨rfl, b⟩⟩
    · rcases (show y < Y ∨ y = Y by omega) with z | rfl
      · exact ⟨a, Or.inl z⟩
      · have := li_bound a hn hpq
        exact ⟨a, Or.inr ⟨rfl, by omega⟩⟩
    · have := li_bound a hn hpq
      exfalso
      generalize p * (Y + 1) = s at *
      generalize q * (Y + 1) = t at *
      omega
theorem Lw.full {X : Int} {f : List (Int × Int)} (h : Lw p q r n (2 * (n.natAbs : Int) + 1) X f) (hn : n ≠ 0) (hpq : p ≠ q) : ∀ x y : Int, (x, y) ∈ f ↔ Li p q r n x y := by
  intro x y
  rw [h.mem]
  refine ⟨fun z => z.1, fun z => ⟨z, Or.inl ?_⟩⟩
  have := (li_bound z hn hpq).2.2
  omega
end
/-! ### the law's cubes -/
structure Lc (n X : Int) (f : List (Int × Int)) : Prop where
  mem : ∀ x y : Int, (x, y) ∈ f ↔ (x ^ 3 + y ^ 3 = n ∧ x < X)
  ord : f.Pairwise Lt
theorem Lc.start {n M : Int} (hn : n ≠ 0) (h0 : 0 ≤ M) (hM : 4 * (n.natAbs : Int) < M * M) : Lc n (-M) [] := by
  refine ⟨fun x y => ⟨fun z => (by cases z), fun z => ?_⟩, List.Pairwise.nil⟩
  have h1 := (sol_bound z.1 hn).1
  have h2 := (ab_le (show x * x ≤ M * M by omega) h0).1
  omega
theorem Lc.skip {n X : Int} {f : List (Int × Int)} (h : Lc n X f) (no : ∀ y : Int, y ^ 3 ≠ n - X ^ 3) : Lc n (X + 1) f := by
  refine ⟨fun x y => ?_, h.ord⟩
  rw [h.mem]
  refine ⟨fun z => ⟨z.1, by omega⟩, fun z => ⟨z.1, ?_⟩⟩
  rcases (show x < X ∨ x = X by omega) with w | rfl
  · exact w
  · exact (no y (by have := z.1; omega)).elim
theorem Lc.add {n X Y : Int} {f : List (Int × Int)} (h : Lc n X f) (hy : Y ^ 3 = n - X ^ 3) : Lc n (X + 1) (f ++ [(X, Y)]) := by
  refine ⟨fun x y => ?_, ?_⟩
  · rw [List.mem_append, h.mem, List.mem_singleton, Prod.mk.injEq]
    constructor
    · rintro (⟨a, b⟩ | ⟨rfl, rfl⟩)
      · exact ⟨a, by omega⟩
      · exact ⟨by omega, by omega⟩
    · rintro ⟨a, b⟩
      rcases (show x < X ∨ x = X by omega) with w | rfl
      · exact Or.inl ⟨a, w⟩
      · exact Or.inr ⟨rfl, cube_mono (by omega)⟩
  · refine List.pairwise_append.mpr ⟨h.ord, List.pairwise_singleton _ _, ?_⟩
    rintro ⟨a1, a2⟩ ha b hb
    rw [List.mem_singleton] at hb
    subst hb
    exact Or.inl ((h.mem _ _).mp ha).2
theorem Lc.full {n X M : Int} {f : List (Int × Int)} (h : Lc n X f) (hn : n ≠ 0) (h0 : 0 ≤ M) (hM : 4 * (n.natAbs : Int) < M * M) (hX : M < X) : ∀ x y : Int, (x, y) ∈ f ↔ x ^ 3 + y ^ 3 = n := by
  intro x y
  rw [h.mem]
  refine ⟨fun z => z.1, fun z => ⟨z, ?_⟩⟩
  have h1 := (sol_bound z hn).1
  have h2 := (ab_le (show x * x ≤ M * M by omega) h0).2
  omega
/-! ### 1729 -/
def taxi : List (Int × Int) := [(1, 12), (9, 10), (10, 9), (12, 1)]
def taxiOk (x y : Int) : Bool := !decide (x ^ 3 + y ^ 3 = 1729) || taxi.any fun p => decide (x = p.1) && decide (y = p.2)
theorem taxi_key : ∀ i : Nat, i < 169 → ∀ k : Nat, k < 20 → taxiOk ((i : Int) - 84) ((k : Int) - ((i : Int) - 84)) = true := by decide +kernel
theorem taxi_ord : taxi.Pairwise Lt := by
  unfold taxi Lt
  simp
theorem taxi_mem : ∀ x y : Int, (x, y) ∈ taxi ↔ x ^ 3 + y ^ 3 = 1729 := by
  intro x y
  constructor
  · intro h
    simp only [taxi, List.mem_cons, List.not_mem_nil, or_false, Prod.mk.injEq] at h
    rcases h with ⟨rfl, rfl⟩ | ⟨rfl, rfl⟩ | ⟨rfl, rfl⟩ | ⟨rfl, rfl⟩ <;> decide
  · intro h
    obtain ⟨h1, h2, -, -, h5⟩ := sol_bound h (by decide)
    have hs : 0 < x + y := h5.mp (by decide)
    have hx := ab_le (show x * x ≤ 84 * 84 by
      have : ((1729 : Int).natAbs : Int) = 1729 := by decide
      omega) (by decide)
    have hk : x + y < 20 := Int.not_le.mp fun z => by
      have e : (x + y) * (x + y) * ((x + y).natAbs : Int) = (x + y) ^ 3 := by
        rw [show ((x + y).natAbs : Int) = x + y by omega]
        grind
      rw [e] at h2
      have := pow_le3 (a := 20) (b := x + y) (by decide) z
      have e2 : (20 : Int) ^ 3 = 8000 := by decide
      have : ((1729 : Int).natAbs : Int) = 1729 := by decide
      omega
    have := taxi_key (x + 84).toNat (by omega) (x + y).toNat (by omega)
    rw [show (((x + 84).toNat : Nat) : Int) - 84 = x by omega, show (((x + y).toNat : Nat) : Int) - x = y by omega] at this
    rw [taxiOk, Bool.or_eq_true, Bool.not_eq_true', decide_eq_false_iff_not, List.any_eq_true] at this
    rcases this with z | ⟨⟨a, b⟩, hm, z⟩
    · exact (z h).elim
    · rw [Bool.and_eq_true, decide_eq_true_iff, decide_eq_true_iff] at z
      rw [z.1, z.2]
      exact hm
end K51M
/-! Bits of a row, values of a polynomial modulo q: plain mathematics. -/
set_option linter.all false
namespace SvM
open K45M
/-- the value of a polynomial, the lowest coefficient first -/
def ev (f : List Int) (x : Int) : Int := f.foldr (fun c t => t * x + c) 0
theorem ev_mo {q x y : Int} (h : Mo q x y) : ∀ f : List Int, Mo q (ev f x) (ev f y)
  | [] => Mo.rfl'
  | c :: f => ((ev_mo h f).mul h).add Mo.rfl'
theorem ev_cons (c : Int) (f : List Int) (x : Int) : ev (c :: f) x = ev f x * x + c := rfl
/-! ### the lowest bit -/
theorem low_form : ∀ r : Nat, 0 < r → ∃ i m, r = 2 ^ i * (2 * m + 1) := by
  intro r
  induction r using Nat.strongRecOn with
  | ind r ih =>
    intro h
    rcases Nat.mod_two_eq_zero_or_one r with e | e
    · obtain ⟨i, m, hm⟩ := ih (r / 2) (by omega) (by omega)
      refine ⟨i + 1, m, ?_⟩
      rw [Nat.pow_succ, Nat.mul_comm (2 ^ i), Nat.mul_assoc, ← hm]
      omega
    · exact ⟨0, r / 2, by rw [Nat.pow_zero]; omega⟩
theorem low_and (m : Nat) : ∀ i : Nat, (2 ^ i * (2 * m + 1)) &&& (2 ^ i * (2 * m + 1) - 1) = 2 ^ i * (2 * m)
  | 0 => by
    rw [Nat.pow_zero, Nat.one_mul, Nat.one_mul, Nat.add_sub_cancel]
    have h1 : ((2 * m + 1) &&& (2 * m)) / 2 = m := by
      rw [Nat.and_div_two, show (2 * m + 1) / 2 = m by omega, show 2 * m / 2 = m by omega, Nat.and_self]
    have h2 : ((2 * m + 1) &&& (2 * m)) % 2 = 0 := by
      have := @Nat.and_mod_two_eq_one (2 * m + 1) (2 * m)
      omega
    omega
  | i + 1 => by
    have ih := low_and m i
    have p : 0 < 2 ^ i * (2 * m + 1) := Nat.mul_pos (Nat.two_pow_pos i) (by omega)
    have e : 2 ^ (i + 1) * (2 * m + 1) = 2 * (2 ^ i * (2 * m + 1)) := by
      rw [Nat.pow_succ, Nat.mul_comm (2 ^ i), Nat.mul_assoc]
    have e2 : 2 ^ (i + 1) * (2 * m) = 2 * (2 ^ i * (2 * m)) := by
      rw [Nat.pow_succ, Nat.mul_comm (2 ^ i), Nat.mul_assoc]
    rw [e, e2]
    generalize 2 ^ i * (2 * m + 1) = s at *
    have h1 : ((2 * s) &&& (2 * s - 1)) / 2 = s &&& (s - 1) := by
      rw [Nat.and_div_two, show 2 * s / 2 = s by omega, show (2 * s - 1) / 2 = s - 1 by omega]
    have h2 : ((2 * s) &&& (2 * s - 1)) % 2 = 0 := by
      have := @Nat.and_mod_two_eq_one (2 * s) (2 * s - 1)
      omega
    omega
theorem tb_odd (m j : Nat) : (2 * m + 1).testBit j = if j = 0 then true else m.testBit (j - 1) := by
  cases j with
  | zero =>
    rw [Nat.testBit_zero, if_pos rfl]
    simp
  | succ j =>
    rw [Nat.testBit_succ, if_neg (by omega), show (2 * m + 1) / 2 = m by omega]
    rfl
theorem tb_even (m j : Nat) : (2 * m).testBit j = if j = 0 then false else m.testBit (j - 1) := by
  cases j with
  | zero =>
    rw [Nat.testBit_zero, if_pos rfl]
    simp
  | succ j =>
    rw [Nat.testBit_succ, if_neg (by omega), show (2 * m) / 2 = m by omega]
    rfl
/-- what taking the lowest bit away does -/
theorem low_bits (i m j : Nat) : (2 ^ i * (2 * m)).testBit j = ((2 ^ i * (2 * m + 1)).testBit j && decide (j ≠ i)) ∧ ((2 ^ i * (2 * m)).testBit j = true → i < j) ∧ (2 ^ i * (2 * m + 1)).testBit i = true := by
  rw [Nat.testBit_two_pow_mul, Nat.testBit_two_pow_mul, Nat.testBit_two_pow_mul, tb_even, tb_odd, tb_odd, Nat.sub_self, if_pos rfl]
  refine ⟨?_, ?_, by simp⟩
  · by_cases h : j - i = 0
    · rw [if_pos h, if_pos h]
      by_cases h2 : j = i
      · simp [h2]
      · have : ¬ i ≤ j := by omega
        simp [this]
    · rw [if_neg h, if_neg h]
      have : j ≠ i := by omega
      simp [this]
  · by_cases h : j - i = 0
    · rw [if_pos h]
      simp
    · intro _
      omega
/-! ### a row repeated -/
/-- bit j is set just for the j below n with a kept j modulo s -/
def Bt (row n : Nat) (kept : List Bool) : Prop := ∀ j, row.testBit j = (decide (j < n) && kept.getD (j % kept.length) false)
theorem Bt.dbl {row n : Nat} {kept : List Bool} (h : Bt row n kept) (hd : kept.length ∣ n) : Bt (row ||| row <<< n) (2 * n) kept := by
  intro j
  rw [Nat.testBit_or, Nat.testBit_shiftLeft, h j, h (j - n)]
  by_cases h1 : j < n
  · have h2 : j < 2 * n := by omega
    have h3 : ¬ j ≥ n := by omega
    simp [h1, h2, h3]
  · have h3 : j ≥ n := by omega
    obtain ⟨k, hk⟩ := hd
    have e : (j - n) % kept.length = j % kept.length := by
      have : j = (j - n) + kept.length * k := by omega
      rw [this, Nat.add_mul_mod_self_left, ← hk, Nat.add_sub_cancel]
    rw [e]
    by_cases h2 : j < 2 * n
    · have h4 : j - n < n := by omega
      simp [h1, h2, h3, h4]
    · have h4 : ¬ j - n < n := by omega
      simp [h1, h2, h3, h4]
theorem Bt.cut {row n L : Nat} {kept : List Bool} (h : Bt row n kept) (hL : L ≤ n) : Bt (row &&& (2 ^ L - 1)) L kept := by
  intro j
  rw [Nat.testBit_and, h j, Nat.testBit_two_pow_sub_one]
  by_cases h1 : j < L
  · have h2 : j < n := by omega
    simp [h1, h2]
  · simp [h1]
/-- the first round -/
def B1 (row i : Nat) (kept : List Bool) : Prop := ∀ j, row.testBit j = (decide (j < i) && kept.getD j false)
theorem B1.zero {kept : List Bool} : B1 0 0 kept := fun j => by simp
theorem B1.set {row i : Nat} {kept : List Bool} (h : B1 row i kept) (hk : kept.getD i false = true) : B1 (row ||| 2 ^ i) (i + 1) kept := by
  intro j
  rw [Nat.testBit_or, h j, Nat.testBit_two_pow]
  by_cases h1 : i = j
  · subst h1
    have : ¬ i < i := by omega
    rw [hk]
    simp
  · by_cases h2 : j < i
    · have : j < i + 1 := by omega
      simp [h1, h2, this]
    · have : ¬ j < i + 1 := by omega
      simp [h1, h2, this]
theorem B1.skip {row i : Nat} {kept : List Bool} (h : B1 row i kept) (hk : kept.getD i false = false) : B1 row (i + 1) kept := by
  intro j
  rw [h j]
  by_cases h1 : i = j
  · subst h1
    rw [hk]
    simp
  · by_cases h2 : j < i
    · have : j < i + 1 := by omega
      simp [h2, this]
    · have : ¬ j < i + 1 := by omega
      simp [h2, this]
theorem B1.bt {row : Nat} {kept : List Bool} (h : B1 row kept.length kept) : Bt row kept.length kept := by
  intro j
  rw [h j]
  by_cases h1 : j < kept.length
  · rw [Nat.mod_eq_of_lt h1]
  · simp [h1]
theorem bt_lt {row n : Nat} {kept : List Bool} (h : Bt row n kept) : row < 2 ^ n := by
  refine Nat.lt_pow_two_of_testBit _ fun j hj => ?_
  rw [h j]
  have : ¬ j < n := by omega
  simp [this]
theorem b1_lt {row n : Nat} {kept : List Bool} (h : B1 row n kept) : row < 2 ^ n := by
  refine Nat.lt_pow_two_of_testBit _ fun j hj => ?_
  rw [h j]
  have : ¬ j < n := by omega
  simp [this]
end SvM
set_option Elab.async false
set_option linter.all false
set_option maxRecDepth 100000
set_option maxHeartbeats 4000000
/-! Lists of pairs of ints in the heap; repr of greater data. -/
namespace PaM
open PySem PySem.Spec PyProof.Rows L2 Gd K51M
/-! ### pairs in the heap -/
/-- the tuples at ts hold the pairs ps -/
inductive PA (H : Hp) : List V → List (Int × Int) → Prop
  | nil : PA H [] []
  | cons {t : Addr} {x y : Int} {ts ps} (h : H t = some (.tup [.int x, .int y])) (r : PA H ts ps) : PA H (.ref t :: ts) ((x, y) :: ps)
theorem PA.same {H H' : Hp} (s : Same H H') : ∀ {ts ps}, PA H ts ps → PA H' ts ps
  | _, _, .nil => .nil
  | _, _, .cons h r => .cons (s _ _ h) (r.same s)
/-- a list is written anew -/
theorem PA.put {H : Hp} {D : Addr} {o : HO} {us : List V} (hD : H D = some (.lst us)) : ∀ {ts ps}, PA H ts ps → PA (upd H D o) ts ps
  | _, _, .nil => .nil
  | _, _, .cons h r => .cons (by rw [upd_ne (ne_of h hD (by intro z; cases z))]; exact h) (r.put hD)
theorem PA.app {H : Hp} : ∀ {ts ps us qs}, PA H ts ps → PA H us qs → PA H (ts ++ us) (ps ++ qs)
  | _, _, _, _, .nil, k => k
  | _, _, _, _, .cons h r, k => .cons h (r.app k)
theorem PA.len {H : Hp} : ∀ {ts ps}, PA H ts ps → ts.length = ps.length
  | _, _, .nil => rfl
  | _, _, .cons h r => congrArg (· + 1) r.len
theorem PA.but {H H' : Hp} {D : Addr} {us : List V} (hD : H D = some (.lst us)) (s : But D H H') : ∀ {ts ps}, PA H ts ps → PA H' ts ps
  | _, _, .nil => .nil
  | _, _, .cons h r => .cons (s _ _ h (ne_of h hD (by intro z; cases z))) (r.but hD s)
/-- the pair of a value -/
noncomputable def key (H : Hp) (x : V) : Int × Int :=
  match x with
  | .ref t => match H t with
    | some (.tup [.int a, .int b]) => (a, b)
    | _ => (0, 0)
  | _ => (0, 0)
theorem PA.key {H : Hp} : ∀ {ts ps}, PA H ts ps → ps = ts.map (key H)
  | _, _, .nil => rfl
  | _, _, .cons h r => by
    rw [List.map_cons, ← r.key]
    congr 1
    show _ = PaM.key H (.ref _)
    unfold PaM.key
    simp only [h]
theorem PA.all {H : Hp} : ∀ {ts ps}, PA H ts ps → ∀ x ∈ ts, ∃ t, x = V.ref t ∧ H t = some (.tup [.int (PaM.key H x).1, .int (PaM.key H x).2])
  | _, _, .nil, x, hx => by cases hx
  | _, _, .cons (t := t) h r, x, hx => by
    rcases List.mem_cons.mp hx with rfl | hx
    · refine ⟨t, rfl, ?_⟩
      unfold PaM.key
      simp only [h]
    · exact r.all x hx
theorem PA.of {H : Hp} : ∀ {ts : List V}, (∀ x ∈ ts, ∃ t, x = V.ref t ∧ H t = some (.tup [.int (PaM.key H x).1, .int (PaM.key H x).2])) → PA H ts (ts.map (PaM.key H))
  | [], _ => .nil
  | x :: ts, h => by
    obtain ⟨t, rfl, e⟩ := h x List.mem_cons_self
    exact .cons e (PA.of fun y hy => h y (List.mem_cons_of_mem _ hy))
/-- sorted: the same pairs, strictly ascending -/
theorem PA.sorted {H : Hp} {ts ys : List V} {ps : List (Int × Int)} (h : PA H ts ps) (hn : ps.Nodup) (h1 : SrtO.Srtd (ltP (PaM.key H)) ys) (h2 : SrtO.Stb (ltP (PaM.key H)) ys ts) :
    ∃ qs, PA H ys qs ∧ qs.Pairwise Lt ∧ qs.length = ps.length ∧ ∀ p, p ∈ qs ↔ p ∈ ps := by
  have pm : (ys.map (PaM.key H)).Perm ps := by
    rw [h.key]
    exact h2.perm.map _
  refine ⟨ys.map (PaM.key H), PA.of fun x hx => h.all x (h2.perm.mem_iff.mp hx), ?_, pm.length_eq, fun p => pm.mem_iff⟩
  refine strict ?_ (pm.nodup_iff.mpr hn)
  rw [List.pairwise_map]
  refine List.Pairwise.imp (fun {a b} z => ?_) h1
  intro q
  have q2 : SrtO.lexB (PaM.key H b) (PaM.key H a) = true := SrtO.lexB_iff.mpr q
  have z2 : SrtO.lexB (PaM.key H b) (PaM.key H a) = false := z
  rw [q2] at z2
  cases z2
/-! ### pairs as data -/
def dps (ps : List (Int × Int)) : List PyData := ps.map fun p => .tuple [.int p.1, .int p.2]
theorem PA.dp {K : PySem.W.Frag} {H : Hp} : ∀ {ts ps}, PA H ts ps → DpAll K H ts (dps ps)
  | _, _, .nil => .nil
  | _, _, .cons h r => .cons (.tup (tup_of h) (.cons (.int _) (.cons (.int _) .nil))) r.dp
theorem dps_ok {ps : List (Int × Int)} (h : ∀ p ∈ ps, B 100 p.1 ∧ B 100 p.2) : okAll (dps ps) = true := by
  induction ps with
  | nil => rfl
  | cons p ps ih =>
    have h1 := h p List.mem_cons_self
    have := ih fun q hq => h q (List.mem_cons_of_mem _ hq)
    show okAll (.tuple [.int p.1, .int p.2] :: dps ps) = true
    simp [okAll, okD, this, h1.1.log (by decide), h1.2.log (by decide)]
theorem dps_depth (ps : List (Int × Int)) : PyData.depthAll (dps ps) ≤ 2 := by
  induction ps with
  | nil => exact Nat.zero_le _
  | cons p ps ih =>
    show PyData.depthAll (.tuple [.int p.1, .int p.2] :: dps ps) ≤ 2
    simp only [PyData.depthAll, PyData.depth]
    omega
theorem dps_wt (ps : List (Int × Int)) : wtAll (dps ps) = 3851 * ps.length := by
  induction ps with
  | nil => rfl
  | cons p ps ih =>
    show wtAll (.tuple [.int p.1, .int p.2] :: dps ps) = _
    simp only [wtAll, wt, ih, List.length_cons]
    omega
/-! ### repr with a bound of the ints' bits -/
mutual
/-- at most so many signs, ints being below 2 ^ k -/
def wtk (k : Nat) : PyData → Nat
  | .none | .bool _ => 5
  | .int _ => k + 1
  | .str x => 10 * x.length + 2
  | .list xs | .tuple xs => wtkAll k xs + 3
  | .dict _ => 0
def wtkAll (k : Nat) : List PyData → Nat
  | [] => 0
  | x :: xs => wtk k x + 2 + wtkAll k xs
end
mutual
def okk (k : Nat) : PyData → Bool
  | .none | .bool _ => true
  | .int i => decide (i.natAbs.log2 < k)
  | .str x => x.cps.toList.all fun c => decide (c < 16 ^ 8)
  | .list xs | .tuple xs => okkAll k xs
  | .dict _ => false
def okkAll (k : Nat) : List PyData → Bool
  | [] => true
  | x :: xs => okk k x && okkAll k xs
end
mutual
theorem shown_wtk {k : Nat} (k0 : 0 < k) (k1 : k ≤ 1920) : ∀ d : PyData, okk k d = true → d.shown.length ≤ wtk k d ∧ d.showable = true ∧ d.hasDict = false
  | .none, _ => by
    refine ⟨?_, rfl, rfl⟩
    show (("None" : Str)).length ≤ 5
    decide +kernel
  | .bool b, _ => by
    refine ⟨?_, rfl, rfl⟩
    cases b <;> (show _ ≤ 5; decide +kernel)
  | .int i, h => by
    have h1 : i.natAbs.log2 < k := of_decide_eq_true (by simpa only [okk] using h)
    refine ⟨?_, by simpa only [PyData.showable] using decide_eq_true (show i.natAbs.log2 < 1920 by omega), rfl⟩
    have e := int_text_length_le (k := k) k0 h1
    show (Str.ofString (toString i)).length ≤ k + 1
    rw [PySem.ofString_length]
    exact e
  | .str x, h => by
    refine ⟨?_, rfl, rfl⟩
    have h1 : ∀ c ∈ x.cps.toList, c < 16 ^ 8 := fun c hc => of_decide_eq_true (List.all_eq_true.mp (by simpa only [okk] using h) c hc)
    exact StrLaws.reprText_len x h1
  | .list xs, h => by
    obtain ⟨h1, h2, h3⟩ := shown_wtkAll k0 k1 xs (by simpa only [okk] using h)
    refine ⟨?_, by simpa only [PyData.showable] using h2, by simpa only [PyData.hasDict] using h3⟩
    simp only [PyData.shown, wtk]
    exact Nat.le_trans (lst_wt _) (Nat.add_le_add_right h1 3)
  | .tuple xs, h => by
    obtain ⟨h1, h2, h3⟩ := shown_wtkAll k0 k1 xs (by simpa only [okk] using h)
    refine ⟨?_, by simpa only [PyData.showable] using h2, by simpa only [PyData.hasDict] using h3⟩
    simp only [PyData.shown, wtk]
    exact Nat.le_trans (tup_wt _) (Nat.add_le_add_right h1 3)
  | .dict _, h => by simp only [okk, Bool.false_eq_true] at h
theorem shown_wtkAll {k : Nat} (k0 : 0 < k) (k1 : k ≤ 1920) : ∀ xs : List PyData, okkAll k xs = true → piled (PyData.shownAll xs) ≤ wtkAll k xs ∧ PyData.showableAll xs = true ∧ PyData.hasDictAll xs = false
  | [], _ => ⟨Nat.le_refl _, rfl, rfl⟩
  | x :: xs, h => by
    have h0 : (okk k x && okkAll k xs) = true := by simpa only [okkAll] using h
    rw [Bool.and_eq_true] at h0
    obtain ⟨a1, a2, a3⟩ := shown_wtk k0 k1 x h0.1
    obtain ⟨b1, b2, b3⟩ := shown_wtkAll k0 k1 xs h0.2
    refine ⟨?_, by simp only [PyData.showableAll, a2, b2, Bool.and_self], by simp only [PyData.hasDictAll, a3, b3, Bool.or_self]⟩
    simp only [PyData.shownAll, wtkAll]
    rw [piled_cons]
    omega
end
/-- the text of data, all ints below 2 ^ k -/
def rReprK (K : PySem.W.Frag) : List V → Hp → VK → Prop := fun xs H Q => ∃ x d k, xs = [x] ∧ Dp K H x d ∧ 0 < k ∧ k ≤ 1920 ∧ okk k d = true ∧ d.depth ≤ 40 ∧ wtk k d ≤ 16000000 ∧ Q (.str d.shown) H
section
variable {X : Cx}
theorem call_reprK (hg : X.A.guards = some []) (hu : X.A.units + 64 < cLine) : CallR X (.builtin "repr") (rReprK X.K) := by
  intro pins s σ H xs us Q I r h
  obtain ⟨x, d, k, rfl, hd, k0, k1, h0, h3, hw, q⟩ := h
  obtain ⟨hz, h1, h2⟩ := shown_wtk k0 k1 d h0
  have h4 : d.shown.length ≤ sizeLine := Nat.le_trans hz (Nat.le_trans hw (by decide))
  obtain ⟨u, rfl, hx⟩ := vals1 r
  obtain ⟨as, rd⟩ := Dp.reads I d x u hd hx
  cases hd with
  | non =>
    obtain rfl : u = Value.none := hx
    exact PySem.P.repr_of_none ⟨.str _, H, I.tok _, ⟨_, rfl⟩, q⟩
  | bl b =>
    obtain rfl : u = Value.bool b := hx
    exact PySem.P.repr_of_bool ⟨.str _, H, I.tok _, ⟨_, rfl⟩, q⟩
  | int i =>
    obtain ⟨t, rfl⟩ := hx
    exact PySem.P.repr_of_int (of_decide_eq_true h1) ⟨.str _, H, I.tok _, ⟨_, rfl⟩, q⟩
  | str z =>
    obtain ⟨t, rfl⟩ := hx
    exact PySem.P.repr_of_str ⟨.str _, H, I.tok _, ⟨_, rfl⟩, q⟩ h4
  | lst hs ha =>
    obtain rfl : u = Value.ref _ := hx
    refine repr_of_reads' rd h1 (PyData.noDict_hsm h2) hg (by omega) (fun _ _ z => z) (fun h' u tk hk => ?_) h4
    exact ⟨.str _, H, I.kept (t' := tk) hk, ⟨_, rfl⟩, q⟩
  | tup hs ha =>
    obtain rfl : u = Value.ref _ := hx
    refine repr_of_reads' rd h1 (PyData.noDict_hsm h2) hg (by omega) (fun _ _ z => z) (fun h' u tk hk => ?_) h4
    exact ⟨.str _, H, I.kept (t' := tk) hk, ⟨_, rfl⟩, q⟩
end
theorem log_k {k : Nat} {x : Int} (h : x.natAbs < 2 ^ k) (h0 : 0 < k) : x.natAbs.log2 < k := PySem.Flt.log2_lt_of h0 h
theorem dps_okk {k : Nat} (k0 : 0 < k) {ps : List (Int × Int)} (h : ∀ p ∈ ps, B k p.1 ∧ B k p.2) : okkAll k (dps ps) = true := by
  induction ps with
  | nil => rfl
  | cons p ps ih =>
    have h1 := h p List.mem_cons_self
    have := ih fun q hq => h q (List.mem_cons_of_mem _ hq)
    show okkAll k (.tuple [.int p.1, .int p.2] :: dps ps) = true
    simp [okkAll, okk, this, log_k h1.1 k0, log_k h1.2 k0]
theorem dps_wtk (k : Nat) (ps : List (Int × Int)) : wtkAll k (dps ps) = (2 * (k + 3) + 5) * ps.length := by
  induction ps with
  | nil => rfl
  | cons p ps ih =>
    show wtkAll k (.tuple [.int p.1, .int p.2] :: dps ps) = _
    simp only [wtkAll, wtk, ih, List.length_cons]
    grind
mutual
theorem dp_same {K : PySem.W.Frag} {H H' : Hp} (s : Same H H') : ∀ {v : V} {d : PyData}, Dp K H v d → Dp K H' v d
  | _, _, .non => .non
  | _, _, .bl b => .bl b
  | _, _, .int i => .int i
  | _, _, .str z => .str z
  | _, _, .lst h a => .lst (s.seq h) (dpAll_same s a)
  | _, _, .tup h a => .tup (Same.tup s h) (dpAll_same s a)
theorem dpAll_same {K : PySem.W.Frag} {H H' : Hp} (s : Same H H') : ∀ {vs : List V} {ds : List PyData}, DpAll K H vs ds → DpAll K H' vs ds
  | _, _, .nil => .nil
  | _, _, .cons h r => .cons (dp_same s h) (dpAll_same s r)
end
theorem pe_k0 {X : Cx} {j k : Nat} {sp : Sp} {x : Str} {p pos : Pos} (c : Kl X.prog X.w X.K X.mg X.base k x sp) (hr : Room j X.A) (hk : k ≤ j) (hg : Gl X x) (hdb : (x == ("__debug__" : Str)) = false := by decide) : PE X (.Call (.Name x p) [] [] pos) (tKal sp tNil) := by
  obtain ⟨f, fd, ps, F, hm, kp, b⟩ := c.ex
  have h := pe_call0 (sp := sp) (E := E0) (dvs := []) F (hr.mono hk) hg hm kp b .nil pass0 hdb (pos := pos) (p := p)
  constructor
  intro pins s σ H Q I q
  refine h.run pins s σ H Q I ?_
  have e2 : tCall sp [] E0 tNil = tKal sp tNil := by
    funext σ H Q
    show tNil σ H (fun vs H1 => sp (vs ++ []) H1 Q E0) = tNil σ H (fun vs H1 => sp vs H1 Q E0)
    congr 1
    funext vs H1
    rw [List.append_nil]
  rw [e2]
  exact q
end PaM
/-! All whole points of y y = x x x + 17 with x to 5300: by trying. -/
set_option linter.all false
set_option maxRecDepth 100000
namespace K48N
open SvM K51M
def pts : List (Int × Int) := [(-2, 3), (-1, 4), (2, 5), (4, 9), (8, 23), (43, 282), (52, 375), (5234, 378661)]
def both (p : Int × Int) : List (Int × Int) := [(p.1, -p.2), (p.1, p.2)]
def s17 : List (Int × Int) := pts.flatMap both
/-- the root, from above -/
def rt : Nat → Nat → Nat → Nat
  | 0, _, x => x
  | f + 1, n, x => if (x + n / x) / 2 < x then rt f n ((x + n / x) / 2) else x
def rtN (n : Nat) : Nat := rt 60 n (2 ^ (n.log2 / 2 + 1))
def okN (i : Nat) : Bool :=
  if i ≤ 5297 then true else
  let n := ((i : Int) - 5300) ^ 3 + 17
  let r := rtN n.toNat
  decide (0 ≤ n) && decide (r * r ≤ n.toNat) && decide (n.toNat < (r + 1) * (r + 1)) && (!decide (r * r = n.toNat) || (s17.contains ((i : Int) - 5300, (r : Int)) && s17.contains ((i : Int) - 5300, -(r : Int))))
theorem tab : (List.range 10601).all okN = true := by decide +kernel
theorem s17_ord : s17.Pairwise Lt := by
  simp only [s17, pts, both, List.flatMap_cons, List.flatMap_nil, List.cons_append, List.nil_append]
  unfold Lt
  simp
theorem s17_right : s17.all (fun p => decide ((-5300 ≤ p.1 ∧ p.1 ≤ 5300) ∧ p.2 * p.2 = ev [17, 0, 0, 1] p.1)) = true := by decide +kernel
theorem ev17 (u : Int) : ev [17, 0, 0, 1] u = u ^ 3 + 17 := by
  show (((0 * u + 1) * u + 0) * u + 0) * u + 17 = u ^ 3 + 17
  grind
theorem s17_mem (u v : Int) : (u, v) ∈ s17 ↔ (-5300 ≤ u ∧ u ≤ 5300) ∧ v * v = ev [17, 0, 0, 1] u := by
  constructor
  · intro h
    exact of_decide_eq_true (List.all_eq_true.mp s17_right (u, v) h)
  · rintro ⟨⟨h1, h2⟩, h3⟩
    have h := List.all_eq_true.mp tab (u + 5300).toNat (List.mem_range.mpr (by omega))
    rw [ev17] at h3
    have v0 := sq_nn v
    have hi : ¬ (u + 5300).toNat ≤ 5297 := by
      intro z
      have hu : u ≤ -3 := by omega
      have := pow_le3 (a := 3) (b := -u) (by decide) (by omega)
      have e : (-u) ^ 3 = -(u ^ 3) := by grind
      have e2 : (3 : Int) ^ 3 = 27 := by decide
      omega
    unfold okN at h
    rw [if_neg hi] at h
    rw [show (((u + 5300).toNat : Nat) : Int) - 5300 = u by omega] at h
    obtain ⟨n, hn⟩ : ∃ n : Int, u ^ 3 + 17 = n := ⟨_, rfl⟩
    rw [hn] at h h3
    obtain ⟨r, hr⟩ : ∃ r : Nat, rtN n.toNat = r := ⟨_, rfl⟩
    simp only [hr, Bool.and_eq_true, decide_eq_true_iff, Bool.or_eq_true, Bool.not_eq_true', decide_eq_false_iff_not] at h
    obtain ⟨⟨⟨n0, a1⟩, a2⟩, a3⟩ := h
    have ev : (v.natAbs : Int) * v.natAbs = n := by rw [Int.natAbs_mul_self' v]; exact h3
    have evn : v.natAbs * v.natAbs = n.toNat := by
      have : ((v.natAbs * v.natAbs : Nat) : Int) = n := by push_cast; exact ev
      omega
    have er : r = v.natAbs := by
      rw [← evn] at a1 a2
      have b1 : r ≤ v.natAbs := Nat.le_of_not_lt fun z => by
        have := Nat.mul_le_mul (show v.natAbs + 1 ≤ r from z) (show v.natAbs + 1 ≤ r from z)
        have e : (v.natAbs + 1) * (v.natAbs + 1) = v.natAbs * v.natAbs + 2 * v.natAbs + 1 := by grind
        omega
      have b2 : v.natAbs ≤ r := Nat.le_of_not_lt fun z => by
        have := Nat.mul_le_mul (show r + 1 ≤ v.natAbs from z) (show r + 1 ≤ v.natAbs from z)
        omega
      omega
    have hsq : r * r = n.toNat := by rw [er]; exact evn
    rcases a3 with z | ⟨z1, z2⟩
    · exact (z hsq).elim
    · rw [List.contains_iff_mem] at z1 z2
      rcases Int.natAbs_eq v with q | q
      · rw [q, ← er]
        exact z1
      · rw [q, ← er]
        exact z2
end K48N
/-! Quartics with a square ahead: no whole solution lies further out. -/
set_option linter.all false
set_option maxRecDepth 100000
namespace K50M
open SvM K51M
def fL (a b c d : Int) : List Int := [d, c, b, a, 1]
theorem evL (a b c d x : Int) : ev (fL a b c d) x = x * x * x * x + a * x * x * x + b * x * x + c * x + d := by
  show ((((0 * x + 1) * x + a) * x + b) * x + c) * x + d = _
  grind
def rest (a b : Int) : Int := 4 * b - a * a
def r1 (a b c : Int) : Int := 64 * c - 8 * a * rest a b
def r0 (a b d : Int) : Int := 64 * d - rest a b * rest a b
def Wx (a b x : Int) : Int := 8 * (x * x) + 4 * (a * x) + rest a b
theorem id64 (a b c d x : Int) : 64 * ev (fL a b c d) x = Wx a b x * Wx a b x + (r1 a b c * x + r0 a b d) := by
  rw [evL]
  unfold Wx r1 r0 rest
  grind
theorem nat_sq (x : Int) : (x.natAbs : Int) * x.natAbs = x * x := Int.natAbs_mul_self' x
/-- two squares that differ -/
theorem sq_gap {u w : Nat} (h : u ≠ w) : (2 * (w : Int) - 1 ≤ (u : Int) * u - (w : Int) * w) ∨ (2 * (w : Int) - 1 ≤ (w : Int) * w - (u : Int) * u) := by
  rcases (show u + 1 ≤ w ∨ w + 1 ≤ u by omega) with z | z
  · right
    have h1 : (u : Int) * u ≤ ((w : Int) - 1) * ((w : Int) - 1) := Int.mul_le_mul (by omega) (by omega) (by omega) (by omega)
    have e : ((w : Int) - 1) * ((w : Int) - 1) = (w : Int) * w - 2 * w + 1 := by grind
    omega
  · left
    have h1 : ((w : Int) + 1) * ((w : Int) + 1) ≤ (u : Int) * u := Int.mul_le_mul (by omega) (by omega) (by omega) (by omega)
    have e : ((w : Int) + 1) * ((w : Int) + 1) = (w : Int) * w + 2 * w + 1 := by grind
    omega
def slope (a b c : Int) : Int := 8 * (a.natAbs : Int) + ((r1 a b c).natAbs : Int)
def last (a b d : Int) : Int := 2 * ((rest a b).natAbs : Int) + 1 + ((r0 a b d).natAbs : Int)
/-- a whole solution is a root of R, or lies within -/
theorem runge {a b c d x y : Int} (h : y * y = ev (fL a b c d) x) : r1 a b c * x + r0 a b d = 0 ∨ 16 * ((x.natAbs : Int) * x.natAbs) ≤ slope a b c * x.natAbs + last a b d := by
  by_cases hR : r1 a b c * x + r0 a b d = 0
  · exact Or.inl hR
  right
  have h1 := id64 a b c d x
  rw [← h] at h1
  have e8 : ((8 * y).natAbs : Int) * (8 * y).natAbs = 64 * (y * y) := by
    rw [nat_sq]
    grind
  have eW := nat_sq (Wx a b x)
  have hne : (8 * y).natAbs ≠ (Wx a b x).natAbs := by
    intro e
    rw [e] at e8
    omega
  have gap := sq_gap hne
  have hRb : 2 * ((Wx a b x).natAbs : Int) - 1 ≤ ((r1 a b c * x + r0 a b d).natAbs : Int) := by omega
  have n1 : ((r1 a b c * x).natAbs : Int) = ((r1 a b c).natAbs : Int) * x.natAbs := by rw [Int.natAbs_mul, Int.natCast_mul]
  have n2 : ((a * x).natAbs : Int) = (a.natAbs : Int) * x.natAbs := by rw [Int.natAbs_mul, Int.natCast_mul]
  have n3 := nat_sq x
  have hW : 8 * (x * x) - 4 * ((a * x).natAbs : Int) - ((rest a b).natAbs : Int) ≤ ((Wx a b x).natAbs : Int) := by
    unfold Wx
    omega
  unfold slope last
  have e5 : (8 * (a.natAbs : Int) + ((r1 a b c).natAbs : Int)) * x.natAbs = 8 * ((a.natAbs : Int) * x.natAbs) + ((r1 a b c).natAbs : Int) * x.natAbs := by grind
  rw [e5, ← n1, ← n2, n3]
  omega
/-- the program's limit -/
theorem limit_ok {s l x r : Int} (hs : 0 ≤ s) (hx : 0 ≤ x) (h : 16 * (x * x) ≤ s * x + l) (h1 : ∀ t : Int, 0 ≤ t → t * t ≤ s * s + 64 * l → t ≤ r) : x ≤ (s + r) / 32 := by
  have e : (32 * x - s) * (32 * x - s) = 64 * (16 * (x * x) - s * x) + s * s := by grind
  have k : 32 * x - s ≤ r := by
    rcases (show 32 * x - s < 0 ∨ 0 ≤ 32 * x - s by omega) with z | z
    · have := h1 0 (by decide) (by
        have := sq_nn (32 * x - s)
        omega)
      omega
    · exact h1 _ z (by omega)
  omega
/-- the law's reach -/
theorem reach_ok {s l x r : Int} (hl : 0 ≤ l) (hr : 0 < r) (h : s * r + l < 16 * (r * r)) (hx : 16 * (x * x) ≤ s * x + l) : x < r := by
  refine Int.not_le.mp fun z => ?_
  have h1 : s < 16 * r := by
    refine Int.not_le.mp fun w => ?_
    have := Int.mul_le_mul_of_nonneg_right w (show 0 ≤ r by omega)
    have e : 16 * r * r = 16 * (r * r) := by grind
    omega
  have h2 : r * (16 * r - s) ≤ x * (16 * x - s) := by
    have a1 := Int.mul_le_mul_of_nonneg_right z (show 0 ≤ 16 * r - s by omega)
    have a2 := Int.mul_le_mul_of_nonneg_left (show 16 * r - s ≤ 16 * x - s by omega) (show 0 ≤ x by omega)
    omega
  have e1 : r * (16 * r - s) = 16 * (r * r) - s * r := by grind
  have e2 : x * (16 * x - s) = 16 * (x * x) - s * x := by grind
  omega
/-- the one whole root of R, if there is any -/
theorem root_one {r1 r0 x : Int} (h1 : r1 ≠ 0) (h : r1 * x + r0 = 0) : r1 ∣ r0 ∧ x = -r0 / r1 := by
  refine ⟨⟨-x, by rw [Int.mul_neg]; omega⟩, ?_⟩
  have : -r0 = r1 * x := by omega
  rw [this, Int.mul_ediv_cancel_left _ h1]
/-! ### the law's own example -/
def six : List (Int × Int) := [(-2, -3), (-2, 3), (0, -1), (0, 1), (2, -5), (2, 5)]
theorem six_ord : six.Pairwise Lt := by
  unfold six Lt
  simp
def ok6 (i : Nat) : Bool :=
  let n := ev (fL 0 0 4 1) ((i : Int) - 20)
  let r := K48N.rtN n.toNat
  (decide (n < 0)) || (decide (r * r ≤ n.toNat) && decide (n.toNat < (r + 1) * (r + 1)) && (!decide (r * r = n.toNat) || (six.contains ((i : Int) - 20, (r : Int)) && six.contains ((i : Int) - 20, -(r : Int)))))
theorem tab6 : (List.range 41).all ok6 = true := by decide +kernel
theorem six_right : six.all (fun p => decide (p.2 * p.2 = ev (fL 0 0 4 1) p.1)) = true := by decide +kernel
theorem six_mem (u v : Int) : (u, v) ∈ six ↔ v * v = ev (fL 0 0 4 1) u := by
  constructor
  · intro h
    exact of_decide_eq_true (List.all_eq_true.mp six_right (u, v) h)
  · intro h3
    have hb : u.natAbs ≤ 20 := by
      rcases runge h3 with z | z
      · exfalso
        have e1 : r1 0 0 4 = 256 := rfl
        have e0 : r0 0 0 1 = 64 := rfl
        rw [e1, e0] at z
        omega
      · have e1 : slope 0 0 4 = 256 := rfl
        have e0 : last 0 0 1 = 65 := rfl
        rw [e1, e0] at z
        refine Nat.le_of_not_lt fun w => ?_
        have := Int.mul_le_mul_of_nonneg_right (show (21 : Int) ≤ (u.natAbs : Int) by omega) (show (0 : Int) ≤ (u.natAbs : Int) by omega)
        omega
    have h := List.all_eq_true.mp tab6 (u + 20).toNat (List.mem_range.mpr (by omega))
    unfold ok6 at h
    rw [show (((u + 20).toNat : Nat) : Int) - 20 = u by omega] at h
    have v0 := sq_nn v
    obtain ⟨n, hn⟩ : ∃ n : Int, ev (fL 0 0 4 1) u = n := ⟨_, rfl⟩
    rw [hn] at h h3
    obtain ⟨r, hr⟩ : ∃ r : Nat, K48N.rtN n.toNat = r := ⟨_, rfl⟩
    simp only [hr, Bool.and_eq_true, decide_eq_true_iff, Bool.or_eq_true, Bool.not_eq_true', decide_eq_false_iff_not] at h
    rcases h with z | ⟨⟨a1, a2⟩, a3⟩
    · omega
    have ev : (v.natAbs : Int) * v.natAbs = n := by rw [Int.natAbs_mul_self' v]; exact h3
    have evn : v.natAbs * v.natAbs = n.toNat := by
      have : ((v.natAbs * v.natAbs : Nat) : Int) = n := by push_cast; exact ev
      omega
    have er : r = v.natAbs := by
      rw [← evn] at a1 a2
      have b1 : r ≤ v.natAbs := Nat.le_of_not_lt fun z => by
        have := Nat.mul_le_mul (show v.natAbs + 1 ≤ r from z) (show v.natAbs + 1 ≤ r from z)
        have e : (v.natAbs + 1) * (v.natAbs + 1) = v.natAbs * v.natAbs + 2 * v.natAbs + 1 := by grind
        omega
      have b2 : v.natAbs ≤ r := Nat.le_of_not_lt fun z => by
        have := Nat.mul_le_mul (show r + 1 ≤ v.natAbs from z) (show r + 1 ≤ v.natAbs from z)
        omega
      omega
    have hsq : r * r = n.toNat := by rw [er]; exact evn
    rcases a3 with z | ⟨z1, z2⟩
    · exact (z hsq).elim
    · rw [List.contains_iff_mem] at z1 z2
      rcases Int.natAbs_eq v with q | q
      · rw [q, ← er]
        exact z1
      · rw [q, ← er]
        exact z2
end K50M
set_option Elab.async false
set_option linter.all false
set_option maxRecDepth 100000
set_option maxHeartbeats 4000000
namespace K50
open PySem PySem.Spec PyProof.Rows L2 Gd QM SvM K45M
def topS (i : Nat) : Stmt := PySem.Challenge.pw_pointsum_k50_whole_quartics_with_a_squar.main.body.getD i (.Pass ⟨0, 0, 0, 0⟩)
/-- what the walk asks of the module's names -/
structure Tx (K : PySem.W.Frag) (mg : Str → Option Value) : Prop where
  isqrt : mg "isqrt" = some (.builtin "math.isqrt")
  int : mg "int" = none
  len : mg "len" = none
  tuple : mg "tuple" = none
  abs : mg "abs" = none
  range : mg "range" = none
  reversed : mg "reversed" = none
  list : mg "list" = none
  sorted : mg "sorted" = none
  min : mg "min" = none
  max : mg "max" = none
  repr : mg "repr" = none
  c_MODULI : ∃ a, (∃ u, mg "MODULI" = some u ∧ RelV (.ref a) u) ∧ ∀ H, SqT K H a [.int 16, .int 9, .int 5, .int 7, .int 11, .int 13, .int 17, .int 19, .int 23, .int 29]
theorem iteN {c A B : Prop} [Decidable c] (h : ¬ c) (b : B) : if c then A else B := by
  rw [if_neg h]
  exact b
theorem iteY {c A B : Prop} [Decidable c] (h : c) (b : A) : if c then A else B := by
  rw [if_pos h]
  exact b
/-- the heap said anew -/
theorem hpN {nx : L2.St → Hp → Prop} {i : Nat} {v : V} {σ : L2.St} {H : Hp} (H' : Hp) (e : H = H') (h : gName i v σ H' nx) : gName i v σ H nx := by
  subst e
  exact h
theorem abs_nat (n : Int) : (if n < 0 then -n else n) = (n.natAbs : Int) := by
  split <;> omega
theorem map_int {ns : List Int} {i : Nat} {x : V} (h : (ns.map V.int)[i]? = some x) : ∃ y : Int, ns[i]? = some y ∧ x = .int y := by
  rw [List.getElem?_map] at h
  cases e : ns[i]? with
  | none =>
    rw [e] at h
    cases h
  | some y =>
    rw [e] at h
    exact ⟨y, rfl, (Option.some.inj h).symm⟩
theorem drop_step {f : List Int} {i : Nat} {c : Int} (h : f[f.length - 1 - i]? = some c) (hi : i < f.length) : f.drop (f.length - (i + 1)) = c :: f.drop (f.length - i) := by
  obtain ⟨h1, h2⟩ := List.getElem?_eq_some_iff.mp h
  rw [show f.length - (i + 1) = f.length - 1 - i by omega, List.drop_eq_getElem_cons h1, h2, show f.length - 1 - i + 1 = f.length - i by omega]
section
variable {P : Program} {w : World} {K : PySem.W.Frag} {mg : Str → Option Value} {base : Heap}
/-! ### root, is_square -/
def sp_root (K : PySem.W.Frag) : Sp := fun vs H Q _ => ∃ n : Int, vs = [.int n] ∧ 0 ≤ n ∧ B 400 n ∧ ∀ r : Int, 0 ≤ r → r * r ≤ n → (∀ s : Int, 0 ≤ s → s * s ≤ n → s ≤ r) → Q (.int r) H
theorem b4000 {n : Int} (h : B 400 n) : n.natAbs < 2 ^ 4000 := Nat.lt_of_lt_of_le h (Nat.pow_le_pow_right (by decide) (by decide))
abbrev s_root : Stmt := topS 2
theorem sc_root : FnScope ["n"] ["n"] (defScope s_root) := ⟨rfl, rfl, rfl, by decide +kernel, rfl, by decide +kernel, by decide +kernel⟩
theorem k_root (T : Tx K mg) (D : Df K mg "root" s_root ["n"])  : Kl P w K mg base 1 "root" (sp_root K) := by
  have nd := sc_root.nd
  refine Kl.by_body D sc_root (fun vs H Q E h => ?_) (fun f cdv A outer s H vs Q E hr h => ?_)
  · obtain ⟨_, rfl, _⟩ := h
    rfl
  · obtain ⟨n, rfl, h0, hB, q⟩ := h
    have hu1 := hu_of hr
    refine ⟨_, (pss_one (ps_ret (pe_callBfun cr_isqrt (by rfl) T.isqrt (pa_cons (pv 0) pa_nil)))), ?_⟩
    obtain ⟨z1, z2⟩ := isqrt_is h0
    exact ⟨_, rfl, n, rfl, h0, b4000 hB, q _ (by omega) z1 z2⟩
theorem root_B {r n : Int} (h0 : 0 ≤ r) (hn : B 400 n) (h : r * r ≤ n) : B 400 r := by
  unfold Gd.B at *
  rcases (show r < 1 ∨ 1 ≤ r by omega) with e | e
  · omega
  · have := Int.mul_le_mul_of_nonneg_right e h0
    omega
def sp_is_square (K : PySem.W.Frag) : Sp := fun vs H Q _ => ∃ n : Int, vs = [.int n] ∧ B 400 n ∧ ∀ b : Bool, (b = true ↔ ∃ r : Int, r * r = n) → Q (.bl b) H
abbrev s_is_square : Stmt := topS 3
theorem sc_is_square : FnScope ["n", "r"] ["n"] (defScope s_is_square) := ⟨rfl, rfl, rfl, by decide +kernel, rfl, by decide +kernel, by decide +kernel⟩
theorem k_is_square (T : Tx K mg) (D : Df K mg "is_square" s_is_square ["n"])  : Kl P w K mg base 1 "is_square" (sp_is_square K) := by
  have nd := sc_is_square.nd
  refine Kl.by_body D sc_is_square (fun vs H Q E h => ?_) (fun f cdv A outer s H vs Q E hr h => ?_)
  · obtain ⟨_, rfl, _⟩ := h
    rfl
  · obtain ⟨n, rfl, hB, q⟩ := h
    have hu1 := hu_of hr
    refine ⟨_, (pss_cons (ps_if (pt_cmpR op_lt (pv 0) pe_int (nomark _)) (pss_one (ps_ret pe_bl)) pss_nil)
      (pss_cons (ps_set (i := 1) nd rfl (by first | exact Or.inl rfl | exact Or.inr rfl) (pe_callBfun cr_isqrt (by rfl) T.isqrt (pa_cons (pv 0) pa_nil)))
      (pss_one (ps_ret (pe_cmpR op_eq (pe_op op_mulW (pv 1) (pv 1)) (pv 0) (nomark _)))))), ?_⟩
    refine ⟨_, rfl, _, _, rfl, rfl, _, rfl, ?_⟩
    by_cases hn : n < 0
    · refine iteY (decide_eq_true hn) ?_
      refine q false ⟨fun z => (by cases z), ?_⟩
      rintro ⟨r, hr⟩
      have := K51M.sq_nn r
      omega
    refine iteN (by simpa using hn) ?_
    have h0 : 0 ≤ n := by omega
    obtain ⟨z1, z2⟩ := isqrt_is h0
    refine ⟨_, rfl, n, rfl, h0, b4000 hB, ?_⟩
    obtain ⟨y, hy⟩ : ∃ y : Nat, PySem.Float64.isqrt n.toNat = y := ⟨_, rfl⟩
    rw [hy] at z1 z2 ⊢
    have yB : B 400 (y : Int) := root_B (by omega) hB z1
    refine ⟨_, rfl, _, rfl, _, _, rfl, rfl, yB.mulW yB (by decide), _, rfl, rfl, ?_⟩
    rw [dec_int]
    refine q _ ⟨fun z => ⟨y, beq_iff_eq.mp z⟩, ?_⟩
    rintro ⟨r, hr⟩
    refine beq_iff_eq.mpr ?_
    have h1 : (r.natAbs : Int) * r.natAbs = n := by rw [Int.natAbs_mul_self' r]; exact hr
    have h2 := z2 r.natAbs (by omega) (by omega)
    have h3 := Int.mul_le_mul h2 h2 (by omega) (by omega)
    omega
/-! ### values -/
def sp_value_whole (K : PySem.W.Frag) : Sp := fun vs H Q _ => ∃ (p : Addr) (f : List Int) (x : Int), vs = [.ref p, .int x] ∧ SqT K H p (f.map V.int) ∧ f.length ≤ 5 ∧ (∀ c ∈ f, B 60 c) ∧ B 40 x ∧ Q (.int (ev f x)) H
theorem ev_B {x : Int} (hx : B 40 x) : ∀ {f : List Int}, (∀ c ∈ f, B 60 c) → B (60 + 41 * f.length) (ev f x)
  | [], _ => by
    show (0 : Int).natAbs < 2 ^ (60 + 41 * 0)
    decide
  | c :: f, h => by
    have h1 := (ev_B hx (f := f) fun d hd => h d (List.mem_cons_of_mem _ hd)).mul hx
    have h2 := h1.add (h c List.mem_cons_self)
    rw [ev_cons]
    refine h2.up ?_
    rw [List.length_cons]
    omega
abbrev s_value_whole : Stmt := topS 5
theorem sc_value_whole : FnScope ["f", "x", "total", "c"] ["f", "x"] (defScope s_value_whole) := ⟨rfl, rfl, rfl, by decide +kernel, rfl, by decide +kernel, by decide +kernel⟩
theorem k_value_whole (T : Tx K mg) (D : Df K mg "value_whole" s_value_whole ["f", "x"])  : Kl P w K mg base 1 "value_whole" (sp_value_whole K) := by
  have nd := sc_value_whole.nd
  refine Kl.by_body D sc_value_whole (fun vs H Q E h => ?_) (fun f cdv A outer s H vs Q E hr h => ?_)
  · obtain ⟨_, _, _, rfl, _⟩ := h
    rfl
  · obtain ⟨p, f, x, rfl, hp, hl, hB, hx, q⟩ := h
    have hu1 := hu_of hr
    refine ⟨_, (pss_cons (ps_set (i := 2) nd rfl (by first | exact Or.inl rfl | exact Or.inr rfl) pe_int)
      (pss_cons (ps_for PassesOwn.never rfl (RT.pi_revA (by rfl) T.reversed (pv 0)) (pg_name (i := 3) nd rfl (by first | exact Or.inl rfl | exact Or.inr rfl)) (pss_one (ps_set (i := 2) nd rfl (by first | exact Or.inl rfl | exact Or.inr rfl) (pe_op op_add (pe_op op_mulW (pv 2) (pv 1)) (pv 3)))))
      (pss_one (ps_ret (pv 2))))), ?_⟩
    have hlm : (f.map V.int).length = f.length := List.length_map ..
    refine ⟨_, rfl, p, _, rfl, .inr ⟨hp, ?_⟩⟩
    refine RT.for_ItvT (K := K) (a := p) (xs := f.map V.int) (fun i σ H2 => H2 = H ∧ ∃ v : Option V, σ = [some (.ref p), some (.int x), some (.int (ev (f.drop (f.length - i)) x)), v]) ⟨rfl, none, ?_⟩ ?_ ?_ ?_
    · rw [Nat.sub_zero, List.drop_length]
      rfl
    · rintro i σ H2 ⟨rfl, _⟩
      exact hp
    · rintro i z σ H2 hi hz ⟨rfl, v, rfl⟩
      rw [hlm] at hi hz
      obtain ⟨c, hc, rfl⟩ := map_int hz
      have b1 := ev_B hx (f := f.drop (f.length - i)) fun d hd => hB d (List.mem_of_mem_drop hd)
      have b2 : B 300 (ev (f.drop (f.length - i)) x) := b1.up (by rw [List.length_drop]; omega)
      refine ⟨_, rfl, _, rfl, _, _, rfl, rfl, b2.mulW hx (by decide), _, rfl, _, _, rfl, rfl, ?_⟩
      refine ⟨rfl, some (.int c), ?_⟩
      rw [drop_step hc hi, ev_cons]
      rfl
    · rintro σ H2 ⟨rfl, v, rfl⟩
      rw [hlm, Nat.sub_self, List.drop_zero]
      exact ⟨_, rfl, q⟩
def sp_value_over (K : PySem.W.Frag) : Sp := fun vs H Q _ => ∃ (p : Addr) (f : List Int) (x m : Int), vs = [.ref p, .int x, .int m] ∧ SqT K H p (f.map V.int) ∧ f.length ≤ 5 ∧ (∀ c ∈ f, B 60 c) ∧ B 40 x ∧ 0 < m ∧ m ≤ 1000 ∧ Q (.int (ev f x % m)) H
abbrev s_value_over : Stmt := topS 6
theorem sc_value_over : FnScope ["f", "x", "m", "total", "c"] ["f", "x", "m"] (defScope s_value_over) := ⟨rfl, rfl, rfl, by decide +kernel, rfl, by decide +kernel, by decide +kernel⟩
theorem k_value_over (T : Tx K mg) (D : Df K mg "value_over" s_value_over ["f", "x", "m"])  : Kl P w K mg base 1 "value_over" (sp_value_over K) := by
  have nd := sc_value_over.nd
  refine Kl.by_body D sc_value_over (fun vs H Q E h => ?_) (fun f cdv A outer s H vs Q E hr h => ?_)
  · obtain ⟨_, _, _, _, rfl, _⟩ := h
    rfl
  · obtain ⟨p, f, x, m, rfl, hp, hl, hB, hx, hm, hm1, q⟩ := h
    have hu1 := hu_of hr
    refine ⟨_, (pss_cons (ps_set (i := 3) nd rfl (by first | exact Or.inl rfl | exact Or.inr rfl) pe_int)
      (pss_cons (ps_for PassesOwn.never rfl (RT.pi_revA (by rfl) T.reversed (pv 0)) (pg_name (i := 4) nd rfl (by first | exact Or.inl rfl | exact Or.inr rfl)) (pss_one (ps_set (i := 3) nd rfl (by first | exact Or.inl rfl | exact Or.inr rfl) (pe_op op_mod (pe_op op_add (pe_op op_mulW (pv 3) (pv 1)) (pv 4)) (pv 2)))))
      (pss_one (ps_ret (pv 3))))), ?_⟩
    have hlm : (f.map V.int).length = f.length := List.length_map ..
    refine ⟨_, rfl, p, _, rfl, .inr ⟨hp, ?_⟩⟩
    refine RT.for_ItvT (K := K) (a := p) (xs := f.map V.int) (fun i σ H2 => H2 = H ∧ ∃ v : Option V, σ = [some (.ref p), some (.int x), some (.int m), some (.int (ev (f.drop (f.length - i)) x % m)), v]) ⟨rfl, none, ?_⟩ ?_ ?_ ?_
    · rw [Nat.sub_zero, List.drop_length]
      show _ = [some (V.ref p), some (.int x), some (.int m), some (.int (0 % m)), none]
      rw [Int.zero_emod]
      rfl
    · rintro i σ H2 ⟨rfl, _⟩
      exact hp
    · rintro i z σ H2 hi hz ⟨rfl, v, rfl⟩
      rw [hlm] at hi hz
      obtain ⟨c, hc, rfl⟩ := map_int hz
      have b2 : B 12 (ev (f.drop (f.length - i)) x % m) := by
        have h1 := Int.emod_nonneg (ev (f.drop (f.length - i)) x) (show m ≠ 0 by omega)
        have h2 := Int.emod_lt_of_pos (ev (f.drop (f.length - i)) x) hm
        unfold Gd.B
        omega
      refine ⟨_, rfl, _, rfl, _, _, rfl, rfl, b2.mulW hx (by decide), _, rfl, _, _, rfl, rfl, _, rfl, _, _, rfl, rfl, hm, ?_⟩
      refine ⟨rfl, some (.int c), ?_⟩
      rw [drop_step hc hi, ev_cons]
      have e : (ev (f.drop (f.length - i)) x % m * x + c) % m = (ev (f.drop (f.length - i)) x * x + c) % m := (Mo.mod.mul Mo.rfl').add Mo.rfl'
      rw [← e]
      rfl
    · rintro σ H2 ⟨rfl, v, rfl⟩
      rw [hlm, Nat.sub_self, List.drop_zero]
      exact ⟨_, rfl, q⟩
end
end K50
set_option Elab.async false
set_option linter.all false
set_option maxRecDepth 100000
set_option maxHeartbeats 4000000
namespace K50
open PySem PySem.Spec PyProof.Rows L2 Gd QM SvM K45M PaM
theorem flat_rep (q : Nat) (x : V) : (List.replicate q [x]).flatten = List.replicate q x := by
  induction q with
  | zero => rfl
  | succ q ih =>
    rw [List.replicate_succ, List.flatten_cons, ih, List.replicate_succ]
    rfl
theorem ix_nat {n : Nat} {j : Nat} (h : j < n) : ixN n (j : Int) = some j := by
  unfold ixN
  rw [if_pos (by omega), if_pos (by omega), Int.toNat_natCast]
theorem set_getD (bs : List Bool) {j : Nat} (h : j < bs.length) (k : Nat) : (bs.set j true).getD k false = if k = j then true else bs.getD k false := by
  rw [List.getD_eq_getElem?_getD, List.getD_eq_getElem?_getD, List.getElem?_set]
  by_cases e : j = k
  · subst e
    simp [h]
  · rw [if_neg e, if_neg (fun z => e z.symm)]
/-- just the squares modulo q are told -/
structure Sd (q : Nat) (bs : List Bool) : Prop where
  len : bs.length = q
  mem : ∀ j, bs.getD j false = true ↔ ∃ z, z < q ∧ z * z % q = j
theorem orN (a b : Nat) : Builtin.bitOr (a : Int) (b : Int) = ((a ||| b : Nat) : Int) := by
  rw [Bits.bitOr_pp (by omega) (by omega), Int.toNat_natCast, Int.toNat_natCast]
theorem andN (a b : Nat) : Builtin.bitAnd (a : Int) (b : Int) = ((a &&& b : Nat) : Int) := by
  rw [bitAnd_pp (by omega) (by omega), Int.toNat_natCast, Int.toNat_natCast]
theorem xorN (a b : Nat) : Builtin.bitXor (a : Int) (b : Int) = ((a ^^^ b : Nat) : Int) := by
  rw [Bits.bitXor_pp (by omega) (by omega), Int.toNat_natCast, Int.toNat_natCast]
theorem powN (k : Nat) : (2 : Int) ^ k = ((2 ^ k : Nat) : Int) := by
  push_cast
  rfl
theorem map_bl {bs : List Bool} {i : Nat} {b : Bool} (h : bs[i]? = some b) : (bs.map V.bl)[i]? = some (.bl b) := by
  rw [List.getElem?_map, h]
  rfl
theorem getD_of {bs : List Bool} {i : Nat} (h : i < bs.length) : bs[i]? = some (bs.getD i false) := by
  rw [List.getD_eq_getElem?_getD, List.getElem?_eq_getElem h]
  rfl
section
variable {P : Program} {w : World} {K : PySem.W.Frag} {mg : Str → Option Value} {base : Heap}
def sp_square_digits (K : PySem.W.Frag) : Sp := fun vs H Q _ => ∃ q : Nat, vs = [.int (q : Int)] ∧ 0 < q ∧ q ≤ 100 ∧ ∀ H' l bs, Same H H' → H' l = some (.lst (bs.map V.bl)) → Sd q bs → Q (.ref l) H'
abbrev s_square_digits : Stmt := topS 9
theorem sc_square_digits : FnScope ["q", "told", "z"] ["q"] (defScope s_square_digits) := ⟨rfl, rfl, rfl, by decide +kernel, rfl, by decide +kernel, by decide +kernel⟩
theorem k_square_digits (T : Tx K mg) (D : Df K mg "square_digits" s_square_digits ["q"])  : Kl P w K mg base 1 "square_digits" (sp_square_digits K) := by
  have nd := sc_square_digits.nd
  refine Kl.by_body D sc_square_digits (fun vs H Q E h => ?_) (fun f cdv A outer s H vs Q E hr h => ?_)
  · obtain ⟨_, rfl, _⟩ := h
    rfl
  · obtain ⟨q', rfl, q0, q1, q⟩ := h
    have hu1 := hu_of hr
    refine ⟨_, (pss_cons (ps_set (i := 1) nd rfl (by first | exact Or.inl rfl | exact Or.inr rfl) (pe_op op_rep (pe_lst (pa_cons pe_bl pa_nil)) (pv 0)))
      (pss_cons (ps_for PassesOwn.never rfl (pi_range1 (by rfl) T.range (pa_cons (pv 0) pa_nil)) (pg_name (i := 2) nd rfl (by first | exact Or.inl rfl | exact Or.inr rfl)) (pss_one (ps_asg pe_bl (pg_sub (pv 1) (pe_op op_mod (pe_op op_mulW (pv 2) (pv 2)) (pv 0)) set_list))))
      (pss_one (ps_ret (pv 1))))), ?_⟩
    refine ⟨(by show 1 ≤ sizeLine; decide), fun l0 nl0 => ?_⟩
    have s1 := Same.new (H := H) (p := l0) (o := .lst [.bl false]) nl0
    have g1 : upd H l0 (.lst [.bl false]) l0 = some (.lst [.bl false]) := upd_same
    generalize upd H l0 (.lst [.bl false]) = H1 at s1 g1 ⊢
    refine ⟨_, rfl, l0, _, _, rfl, rfl, g1, by omega, by omega, small (by rw [Int.toNat_natCast]; show 1 * q' ≤ 1000; omega), fun D nD => ?_⟩
    rw [Int.toNat_natCast, flat_rep, show List.replicate q' (V.bl false) = (List.replicate q' false).map V.bl by rw [List.map_replicate]]
    have s2 := Same.new (H := H1) (p := D) (o := .lst ((List.replicate q' false).map V.bl)) nD
    have g2 : upd H1 D (.lst ((List.replicate q' false).map V.bl)) D = some (.lst ((List.replicate q' false).map V.bl)) := upd_same
    generalize upd H1 D (.lst ((List.replicate q' false).map V.bl)) = H2 at s2 g2 ⊢
    first | refine sigN [some (.int ((q' : Int))), some (.ref D), none] (by rfl) ?_ | refine sig [some (.int ((q' : Int))), some (.ref D), none] (by rfl) ?_
    refine ⟨_, rfl, _, rfl, by omega, by omega, ?_⟩
    refine for_range (lo := 0) (n := (q' : Int).toNat) (fun i σ H3 => But D H2 H3 ∧ ∃ (v : Option V) (bs : List Bool), σ = [some (.int (q' : Int)), some (.ref D), v] ∧ H3 D = some (.lst (bs.map V.bl)) ∧ bs.length = q' ∧ ∀ j, bs.getD j false = true ↔ ∃ z, z < i ∧ z * z % q' = j) ⟨But.refl _ _, none, _, rfl, g2, List.length_replicate, fun j => ?_⟩ ?_ ?_
    · rw [List.getD_eq_getElem?_getD, List.getElem?_replicate]
      constructor
      · intro z
        split at z <;> cases z
      · rintro ⟨z, h, _⟩
        omega
    · rintro i σ H3 hi ⟨b3, v, bs, rfl, g3, hl, hm⟩
      rw [Int.toNat_natCast] at hi
      have iB : B 10 ((0 : Int) + (i : Int)) := by
        unfold Gd.B
        omega
      have e : ((0 : Int) + (i : Int)) * ((0 : Int) + (i : Int)) % (q' : Int) = ((i * i % q' : Nat) : Int) := by
        rw [Int.zero_add]
        push_cast
        rfl
      have hj : i * i % q' < q' := Nat.mod_lt _ q0
      refine ⟨_, rfl, _, rfl, _, rfl, _, _, rfl, rfl, iB.mulW iB (by decide), _, rfl, _, _, rfl, rfl, (by show (0 : Int) < (q' : Int); omega), ?_⟩
      show rSetL (V.ref D) (V.int (((0 : Int) + (i : Int)) * ((0 : Int) + (i : Int)) % (q' : Int))) (V.bl true) H3 _
      rw [e]
      refine ⟨D, _, _, i * i % q', rfl, rfl, g3, ?_, ?_⟩
      · rw [List.length_map]
        exact ix_nat (by omega)
      · refine ⟨b3.trans But.upd, _, bs.set (i * i % q') true, rfl, ?_, by rw [List.length_set]; exact hl, fun j => ?_⟩
        · rw [upd_same, List.map_set]
        · rw [set_getD bs (by omega)]
          by_cases hjj : j = i * i % q'
          · rw [if_pos hjj]
            exact ⟨fun _ => ⟨i, by omega, hjj.symm⟩, fun _ => rfl⟩
          · rw [if_neg hjj, hm]
            constructor
            · rintro ⟨z, h1, h2⟩
              exact ⟨z, by omega, h2⟩
            · rintro ⟨z, h1, h2⟩
              rcases (show z < i ∨ z = i by omega) with h3 | rfl
              · exact ⟨z, h3, h2⟩
              · exact absurd h2.symm hjj
    · rintro σ H3 ⟨b3, v, bs, rfl, g3, hl, hm⟩
      rw [Int.toNat_natCast] at hm
      exact ⟨_, rfl, q _ D bs (But.same s1 ((But.of s2).trans b3 |> fun b => (fun c o e n => b3 c o (s2 c o e) n : But D H1 H3)) (s1.free nD)) g3 ⟨hl, hm⟩⟩
/-! ### a row repeated -/
def sp_repeated (K : PySem.W.Frag) : Sp := fun vs H Q _ => ∃ (l : Addr) (bs : List Bool) (L : Nat), vs = [.ref l, .int (L : Int)] ∧ SqL K H l (bs.map V.bl) ∧ 0 < bs.length ∧ bs.length ≤ 100 ∧ L ≤ 1000000 ∧ ∀ row : Nat, Bt row L bs → Q (.int (row : Int)) H
abbrev s_repeated : Stmt := topS 10
theorem sc_repeated : FnScope ["kept", "length", "size", "row", "i"] ["kept", "length"] (defScope s_repeated) := ⟨rfl, rfl, rfl, by decide +kernel, rfl, by decide +kernel, by decide +kernel⟩
theorem k_repeated (T : Tx K mg) (D : Df K mg "repeated" s_repeated ["kept", "length"])  : Kl P w K mg base 1 "repeated" (sp_repeated K) := by
  have nd := sc_repeated.nd
  refine Kl.by_body D sc_repeated (fun vs H Q E h => ?_) (fun f cdv A outer s H vs Q E hr h => ?_)
  · obtain ⟨_, _, _, rfl, _⟩ := h
    rfl
  · obtain ⟨l, bs, L, rfl, hl, h0, h1, hL, q⟩ := h
    have hu1 := hu_of hr
    refine ⟨_, (pss_cons (ps_set (i := 2) nd rfl (by first | exact Or.inl rfl | exact Or.inr rfl) (pe_callB call_len_seq (by rfl) T.len (by decide +kernel) (pa_cons (pv 0) pa_nil)))
      (pss_cons (ps_set (i := 3) nd rfl (by first | exact Or.inl rfl | exact Or.inr rfl) pe_int)
      (pss_cons (ps_for PassesOwn.never rfl (pi_range1 (by rfl) T.range (pa_cons (pv 2) pa_nil)) (pg_name (i := 4) nd rfl (by first | exact Or.inl rfl | exact Or.inr rfl)) (pss_one (ps_if (pt_val (pe_ix ix_list (pv 0) (pv 4) (fun _ _ => rfl))) (pss_one (ps_aug (i := 3) nd rfl (by first | exact Or.inl rfl | exact Or.inr rfl) (pe_op op_oneShl pe_int (pv 4)) iop_or)) pss_nil)))
      (pss_cons (ps_while PassesOwn.never (pt_cmpR op_lt (pv 2) (pv 1) (nomark _)) (pss_cons (ps_aug (i := 3) nd rfl (by first | exact Or.inl rfl | exact Or.inr rfl) (pe_op op_shlN (pv 3) (pv 2)) iop_or)
      (pss_one (ps_set (i := 2) nd rfl (by first | exact Or.inl rfl | exact Or.inr rfl) (pe_op op_mul pe_int (pv 2))))))
      (pss_one (ps_ret (pe_op op_andM (pv 3) (pe_op op_sub (pe_op op_oneShl pe_int (pv 1)) pe_int)))))))), ?_⟩
    have hlm : (bs.map V.bl).length = bs.length := List.length_map ..
    refine ⟨_, rfl, l, _, rfl, .inl hl, ?_⟩
    rw [hlm]
    first | refine sigN [some (.ref l), some (.int ((L : Int))), some (.int ((bs.length : Int))), none, none] (by rfl) ?_ | refine sig [some (.ref l), some (.int ((L : Int))), some (.int ((bs.length : Int))), none, none] (by rfl) ?_
    refine ⟨_, rfl, _, rfl, by omega, by omega, ?_⟩
    refine for_range (lo := 0) (n := (bs.length : Int).toNat) (fun i σ H3 => H3 = H ∧ ∃ (v : Option V) (row : Nat), σ = [some (.ref l), some (.int (L : Int)), some (.int (bs.length : Int)), some (.int (row : Int)), v] ∧ B1 row i bs) ⟨rfl, none, 0, rfl, B1.zero⟩ ?_ ?_
    · rintro i σ H3 hi ⟨rfl, v, row, rfl, b⟩
      rw [Int.toNat_natCast] at hi
      have e0 : (0 : Int) + (i : Int) = (i : Int) := Int.zero_add _
      first | refine sigN [some (.ref l), some (.int (L : Int)), some (.int (bs.length : Int)), some (.int (row : Int)), some (.int (i : Int))] (by rw [e0]; rfl) ?_ | refine sig [some (.ref l), some (.int (L : Int)), some (.int (bs.length : Int)), some (.int (row : Int)), some (.int (i : Int))] (by rw [e0]; rfl) ?_
      refine ⟨_, rfl, _, rfl, l, _, _, .bl (bs.getD i false), rfl, rfl, hl, atI_nat (map_bl (getD_of hi)), _, rfl, ?_⟩
      cases hk : bs.getD i false with
      | true =>
        refine iteY rfl ?_
        refine ⟨_, rfl, _, rfl, i, rfl, rfl, by omega, _, _, rfl, rfl, ?_⟩
        refine ⟨rfl, some (.int (i : Int)), row ||| 2 ^ i, ?_, b.set hk⟩
        rw [← orN, ← powN]
        rfl
      | false =>
        refine iteN (by decide) ?_
        exact ⟨rfl, _, row, rfl, b.skip hk⟩
    · rintro σ H3 ⟨rfl, v, row, rfl, b⟩
      rw [Int.toNat_natCast] at b
      have bt := b.bt
      clear b
      refine while_by (fun σ H4 => H4 = H3 ∧ ∃ (n row : Nat), σ = [some (.ref l), some (.int (L : Int)), some (.int (n : Int)), some (.int (row : Int)), v] ∧ Bt row n bs ∧ bs.length ∣ n ∧ 0 < n ∧ n ≤ 2000100)
        (fun σ _ => match σ with | [_, _, some (.int n), _, _] => L - n.toNat | _ => 0) ⟨rfl, bs.length, row, rfl, bt, Nat.dvd_refl _, h0, by omega⟩ ?_ ?_
      · rintro σ H4 ⟨rfl, n, row, rfl, bt, dv, n0, n1⟩
        refine ⟨_, rfl, _, rfl, _, _, rfl, rfl, _, rfl, ?_⟩
        by_cases hlt : (n : Int) < (L : Int)
        · refine iteY (decide_eq_true hlt) ?_
          have rl := bt_lt bt
          refine ⟨_, rfl, _, rfl, _, rfl, (row : Int), n, rfl, rfl, shl_ok (n := 1000001) (Nat.lt_of_lt_of_le (by rw [Int.natAbs_natCast]; exact rl) (Nat.pow_le_pow_right (by decide) (by omega))) (by omega), _, _, rfl, rfl, ?_⟩
          have e : (row : Int) * 2 ^ n = ((row <<< n : Nat) : Int) := by
            rw [Nat.shiftLeft_eq, powN]
            push_cast
            rfl
          refine ⟨_, rfl, _, _, rfl, rfl, (Or.inl ⟨by decide, by decide⟩), ?_⟩
          refine ⟨⟨rfl, 2 * n, row ||| row <<< n, by rw [← orN, ← e]; push_cast; rfl, bt.dbl dv, Nat.dvd_trans dv (Nat.dvd_mul_left n 2), by omega, by omega⟩, ?_⟩
          show L - (2 * (n : Int)).toNat < L - (n : Int).toNat
          omega
        · refine iteN (by simpa using hlt) ?_
          refine ⟨_, rfl, _, rfl, L, rfl, rfl, by omega, _, _, rfl, rfl, (row : Int), L, rfl, rfl, ?_⟩
          rw [show (row : Int) % 2 ^ L = ((row &&& (2 ^ L - 1) : Nat) : Int) by rw [Nat.and_two_pow_sub_one_eq_mod, powN]; push_cast; rfl]
          exact q _ (bt.cut (by omega))
      · rintro σ H2 Q1 Q2 i ⟨v, hv, v2, hv2, x, y, e1, e2, b, e3, z⟩
        exact ⟨v, hv, v2, hv2, x, y, e1, e2, b, e3, i _ _ z⟩
end
end K50
set_option Elab.async false
set_option linter.all false
set_option maxRecDepth 100000
set_option maxHeartbeats 4000000
namespace K50
open PySem PySem.Spec PyProof.Rows L2 Gd QM SvM K45M PaM
theorem low_bit {r i m : Nat} (h : r = 2 ^ i * (2 * m + 1)) : Builtin.bitAnd (r : Int) (-(r : Int)) = ((2 ^ i : Nat) : Int) := by
  have p : 0 < r := h ▸ Nat.mul_pos (Nat.two_pow_pos i) (by omega)
  have h1 := low_and m i
  rw [← h] at h1
  have e : Builtin.bitAnd (r : Int) (-(r : Int)) = (r : Int) - ((r &&& (r - 1) : Nat) : Int) := by
    unfold Builtin.bitAnd
    rw [decide_eq_true (show (0 : Int) ≤ (r : Int) by omega), decide_eq_false (show ¬ (0 : Int) ≤ -(r : Int) by omega)]
    show (r : Int) - (((r : Int).toNat &&& (Builtin.bitNot (-(r : Int))).toNat : Nat) : Int) = _
    rw [Int.toNat_natCast, show (Builtin.bitNot (-(r : Int))).toNat = r - 1 by unfold Builtin.bitNot; omega]
  rw [e, h1, h]
  have : 2 ^ i * (2 * m + 1) = 2 ^ i * (2 * m) + 2 ^ i := by rw [Nat.mul_add, Nat.mul_one]
  omega
theorem low_off {r i m : Nat} (h : r = 2 ^ i * (2 * m + 1)) : r ^^^ 2 ^ i = 2 ^ i * (2 * m) := by
  refine Nat.eq_of_testBit_eq fun j => ?_
  obtain ⟨h1, -, h3⟩ := low_bits i m j
  rw [Nat.testBit_xor, Nat.testBit_two_pow, h1, ← h]
  by_cases e : i = j
  · subst e
    rw [h, h3]
    simp
  · have : j ≠ i := fun z => e z.symm
    simp [e, this]
theorem bits_two (i : Nat) : Builtin.Int.intBits ((2 ^ i : Nat) : Int) = i + 1 := by
  have p := Nat.two_pow_pos i
  unfold Builtin.Int.intBits
  rw [if_neg (by simp only [beq_iff_eq]; omega)]
  rw [Int.natAbs_natCast, Nat.log2_two_pow]
def natL (L : List Nat) : List V := L.map fun (j : Nat) => V.int (j : Int)
theorem len_le : ∀ {L : List Nat} {a n : Nat}, L.Pairwise (· < ·) → (∀ j ∈ L, a ≤ j ∧ j < n) → a ≤ n → L.length ≤ n - a
  | [], _, _, _, _, _ => Nat.zero_le _
  | x :: L, a, n, h, hm, han => by
    obtain ⟨h1, h2⟩ := List.pairwise_cons.mp h
    have hx := hm x List.mem_cons_self
    have := len_le (a := x + 1) (n := n) h2 (fun j hj => ⟨h1 j hj, (hm j (List.mem_cons_of_mem _ hj)).2⟩) hx.2
    rw [List.length_cons]
    omega
theorem tb_lt {R n j : Nat} (h : R < 2 ^ n) (hj : R.testBit j = true) : j < n := by
  refine Nat.not_le.mp fun z => ?_
  have : R < 2 ^ j := Nat.lt_of_lt_of_le h (Nat.pow_le_pow_right (by decide) z)
  rw [Nat.testBit_lt_two_pow this] at hj
  cases hj
/-- the tables: a prime's number, its row -/
inductive TabAt (D : Addr) (H : Hp) : List V → List (Int × Nat) → Prop
  | nil : TabAt D H [] []
  | cons {t l : Addr} {q : Int} {row : Nat} {ts rs} (ht : H t = some (.tup [.int q, .ref l])) (hl : H l = some (.lst [.int (row : Int)])) (ne : l ≠ D) (h0 : 0 < q) (r : TabAt D H ts rs) : TabAt D H (.ref t :: ts) ((q, row) :: rs)
theorem TabAt.same {D : Addr} {H H' : Hp} (s : Same H H') : ∀ {ts rs}, TabAt D H ts rs → TabAt D H' ts rs
  | _, _, .nil => .nil
  | _, _, .cons ht hl ne h0 r => .cons (s _ _ ht) (s _ _ hl) ne h0 (r.same s)
theorem TabAt.put {D : Addr} {H : Hp} {us : List V} {o : HO} (hD : H D = some (.lst us)) : ∀ {ts rs}, TabAt D H ts rs → TabAt D (upd H D o) ts rs
  | _, _, .nil => .nil
  | _, _, .cons ht hl ne h0 r => .cons (by rw [upd_ne (ne_of ht hD (by intro z; cases z))]; exact ht) (by rw [upd_ne ne]; exact hl) ne h0 (r.put hD)
theorem TabAt.app {D : Addr} {H : Hp} : ∀ {ts rs us qs}, TabAt D H ts rs → TabAt D H us qs → TabAt D H (ts ++ us) (rs ++ qs)
  | _, _, _, _, .nil, k => k
  | _, _, _, _, .cons ht hl ne h0 r, k => .cons ht hl ne h0 (r.app k)
theorem TabAt.len {D : Addr} {H : Hp} : ∀ {ts rs}, TabAt D H ts rs → ts.length = rs.length
  | _, _, .nil => rfl
  | _, _, .cons _ _ _ _ r => congrArg (· + 1) r.len
theorem TabAt.get {D : Addr} {H : Hp} : ∀ {ts rs} {i : Nat} {x : V}, TabAt D H ts rs → ts[i]? = some x → ∃ (t l : Addr) (q : Int) (row : Nat), x = .ref t ∧ rs[i]? = some (q, row) ∧ H t = some (.tup [.int q, .ref l]) ∧ H l = some (.lst [.int (row : Int)]) ∧ 0 < q
  | _, _, i, _, .nil, h => by cases h
  | _, _, 0, _, .cons ht hl _ h0 r, h => ⟨_, _, _, _, (Option.some.inj h).symm, rfl, ht, hl, h0⟩
  | _, _, i + 1, _, .cons ht hl _ h0 r, h => r.get (i := i) h
section
variable {P : Program} {w : World} {K : PySem.W.Frag} {mg : Str → Option Value} {base : Heap}
def sp_places_of (K : PySem.W.Frag) : Sp := fun vs H Q _ => ∃ R : Nat, vs = [.int (R : Int)] ∧ R < 2 ^ 1000000 ∧ ∀ H' l L, Same H H' → H l = none → H' l = some (.lst (natL L)) → L.Pairwise (· < ·) → (∀ j, j ∈ L ↔ R.testBit j = true) → Q (.ref l) H'
abbrev s_places_of : Stmt := topS 12
theorem sc_places_of : FnScope ["row", "found", "lowest_bit"] ["row"] (defScope s_places_of) := ⟨rfl, rfl, rfl, by decide +kernel, rfl, by decide +kernel, by decide +kernel⟩
theorem k_places_of (T : Tx K mg) (D : Df K mg "places_of" s_places_of ["row"])  : Kl P w K mg base 1 "places_of" (sp_places_of K) := by
  have nd := sc_places_of.nd
  refine Kl.by_body D sc_places_of (fun vs H Q E h => ?_) (fun f cdv A outer s H vs Q E hr h => ?_)
  · obtain ⟨_, rfl, _⟩ := h
    rfl
  · obtain ⟨R, rfl, hR, q⟩ := h
    have hu1 := hu_of hr
    refine ⟨_, (pss_cons (ps_set (i := 1) nd rfl (by first | exact Or.inl rfl | exact Or.inr rfl) (pe_lst pa_nil))
      (pss_cons (ps_while PassesOwn.never (pt_cmpR op_gt (pv 0) pe_int (nomark _)) (pss_cons (ps_set (i := 2) nd rfl (by first | exact Or.inl rfl | exact Or.inr rfl) (pe_op op_and (pv 0) (pe_un un_neg (pv 0))))
      (pss_cons (ps_expr (pe_bm PySem.F.plainAttrs_list PySem.F.slot_list_append PySem.F.type_list_append mt_append (pv 1) (pa_cons (pe_op op_sub (pe_bits (pv 2)) pe_int) pa_nil)))
      (pss_one (ps_aug (i := 0) nd rfl (by first | exact Or.inl rfl | exact Or.inr rfl) (pv 2) iop_xor)))))
      (pss_one (ps_ret (pv 1))))), ?_⟩
    refine ⟨(by show 0 ≤ sizeLine; decide), fun D nD => ?_⟩
    have s1 := Same.new (H := H) (p := D) (o := .lst []) nD
    have g1 : upd H D (.lst []) D = some (.lst []) := upd_same
    generalize upd H D (.lst []) = H1 at s1 g1 ⊢
    first | refine sigN [some (.int ((R : Int))), some (.ref D), none] (by rfl) ?_ | refine sig [some (.int ((R : Int))), some (.ref D), none] (by rfl) ?_
    refine while_by (fun σ H3 => But D H1 H3 ∧ ∃ (v : Option V) (r : Nat) (L : List Nat), σ = [some (.int (r : Int)), some (.ref D), v] ∧ H3 D = some (.lst (natL L)) ∧ L.Pairwise (· < ·) ∧ (∀ j ∈ L, R.testBit j = true) ∧ (∀ j, R.testBit j = true → j ∈ L ∨ r.testBit j = true) ∧ (∀ j, r.testBit j = true → R.testBit j = true) ∧ (∀ j ∈ L, ∀ k, r.testBit k = true → j < k))
      (fun σ _ => match σ with | [some (.int r), _, _] => r.toNat | _ => 0) ⟨But.refl _ _, none, R, [], rfl, g1, List.Pairwise.nil, (by simp), fun j h => Or.inr h, fun j h => h, (by simp)⟩ ?_ ?_
    · rintro σ H3 ⟨b3, v, r, L, rfl, g3, pw, h1, h2, h3, h4⟩
      refine ⟨_, rfl, _, _, rfl, rfl, _, rfl, ?_⟩
      by_cases r0 : 0 < (r : Int)
      · refine iteY (decide_eq_true r0) ?_
        obtain ⟨i, m, hr2⟩ := low_form r (by omega)
        have hlow := low_bit hr2
        have hoff := low_off hr2
        have hiT : r.testBit i = true := hr2 ▸ (low_bits i m i).2.2
        have hlen : L.length ≤ 1000000 := by
          have := len_le (a := 0) (n := 1000000) pw (fun j hj => ⟨Nat.zero_le _, tb_lt hR (h1 j hj)⟩) (Nat.zero_le _)
          omega
        refine ⟨_, rfl, _, rfl, _, rfl, _, _, rfl, rfl, ?_⟩
        first | refine sigN [some (.int (r : Int)), some (.ref D), some (.int ((2 ^ i : Nat) : Int))] (by rw [← hlow]; rfl) ?_ | refine sig [some (.int (r : Int)), some (.ref D), some (.int ((2 ^ i : Nat) : Int))] (by rw [← hlow]; rfl) ?_
        refine ⟨_, rfl, .inl ⟨rfl, _, lst_of g3⟩, _, rfl, _, rfl, _, _, rfl, rfl, D, _, _, rfl, rfl, g3, Nat.lt_of_le_of_lt (show (natL L).length ≤ 1000000 by unfold natL; rw [List.length_map]; exact hlen) (by decide), ?_⟩
        rw [bits_two]
        have eL : natL L ++ [V.int (((i + 1 : Nat) : Int) - 1)] = natL (L ++ [i]) := by
          unfold natL
          rw [List.map_append, show (((i + 1 : Nat) : Int) - 1) = (i : Int) by omega]
          rfl
        rw [eL]
        refine ⟨_, rfl, _, rfl, _, _, rfl, rfl, ?_⟩
        refine ⟨⟨b3.trans But.upd, some (.int ((2 ^ i : Nat) : Int)), 2 ^ i * (2 * m), L ++ [i], by rw [← hoff, ← xorN]; rfl, upd_same, ?_, ?_, ?_, ?_, ?_⟩, ?_⟩
        · refine List.pairwise_append.mpr ⟨pw, List.pairwise_singleton _ _, fun j hj b hb => ?_⟩
          rw [List.mem_singleton.mp hb]
          exact h4 j hj i hiT
        · intro j hj
          rcases List.mem_append.mp hj with z | z
          · exact h1 j z
          · rw [List.mem_singleton.mp z]
            exact h3 i hiT
        · intro j hj
          rcases h2 j hj with z | z
          · exact Or.inl (List.mem_append_left _ z)
          · by_cases e : j = i
            · exact Or.inl (List.mem_append_right _ (List.mem_singleton.mpr e))
            · refine Or.inr ?_
              rw [(low_bits i m j).1, ← hr2, z]
              simp [e]
        · intro j hj
          rw [(low_bits i m j).1, Bool.and_eq_true, ← hr2] at hj
          exact h3 j hj.1
        · intro j hj k hk
          have hk2 := (low_bits i m k).2.1 hk
          rcases List.mem_append.mp hj with z | z
          · rw [(low_bits i m k).1, Bool.and_eq_true, ← hr2] at hk
            exact h4 j z k hk.1
          · rw [List.mem_singleton.mp z]
            exact hk2
        · show (Builtin.bitXor (r : Int) ((2 ^ i : Nat) : Int)).toNat < (r : Int).toNat
          rw [xorN, hoff]
          have : 2 ^ i * (2 * m + 1) = 2 ^ i * (2 * m) + 2 ^ i := by rw [Nat.mul_add, Nat.mul_one]
          have := Nat.two_pow_pos i
          omega
      · refine iteN (by simpa using r0) ?_
        have : r = 0 := by omega
        subst this
        refine ⟨_, rfl, q _ D L (But.same s1 b3 nD) nD g3 pw fun j => ⟨h1 j, fun hj => ?_⟩⟩
        rcases h2 j hj with z | z
        · exact z
        · simp at z
    · rintro σ H2 Q1 Q2 i ⟨v, hv, x, y, e1, e2, b, e3, z⟩
      exact ⟨v, hv, x, y, e1, e2, b, e3, i _ _ z⟩
def sp_places_left (K : PySem.W.Frag) : Sp := fun vs H Q _ => ∃ (D : Addr) (n : Nat) (ts : List V) (rs : List (Int × Nat)), vs = [.ref D, .int 0, .int (n : Int)] ∧ SqL K H D ts ∧ TabAt D H ts rs ∧ n ≤ 1000000 ∧ ∀ H' l L, Same H H' → H l = none → H' l = some (.lst (natL L)) → L.Pairwise (· < ·) → (∀ j ∈ L, j < n) → (∀ j, j < n → (∀ r ∈ rs, r.2.testBit j = true) → j ∈ L) → Q (.ref l) H'
abbrev s_places_left : Stmt := topS 11
theorem sc_places_left : FnScope ["tables", "at", "length", "row", "q", "rows"] ["tables", "at", "length"] (defScope s_places_left) := ⟨rfl, rfl, rfl, by decide +kernel, rfl, by decide +kernel, by decide +kernel⟩
theorem k_places_left (T : Tx K mg) (D : Df K mg "places_left" s_places_left ["tables", "at", "length"]) (c_places_of : Kl P w K mg base 1 "places_of" (sp_places_of K)) : Kl P w K mg base 2 "places_left" (sp_places_left K) := by
  have nd := sc_places_left.nd
  refine Kl.by_body D sc_places_left (fun vs H Q E h => ?_) (fun f cdv A outer s H vs Q E hr h => ?_)
  · obtain ⟨_, _, _, _, rfl, _⟩ := h
    rfl
  · obtain ⟨D, n, ts, rs, rfl, hD, hT, hn, q⟩ := h
    have hu1 := hu_of hr
    refine ⟨_, (pss_cons (ps_set (i := 3) nd rfl (by first | exact Or.inl rfl | exact Or.inr rfl) (pe_op op_sub (pe_op op_oneShl pe_int (pv 2)) pe_int))
      (pss_cons (ps_for PassesOwn.never rfl (pi_list (pv 0)) (pg_tup rfl (pgs_cons (pg_name (i := 4) nd rfl (by first | exact Or.inl rfl | exact Or.inr rfl)) (pgs_cons (pg_name (i := 5) nd rfl (by first | exact Or.inl rfl | exact Or.inr rfl)) pgs_nil))) (pss_one (ps_aug (i := 3) nd rfl (by first | exact Or.inl rfl | exact Or.inr rfl) (pe_ix ix_list (pv 5) (pe_op op_mod (pv 1) (pv 4)) (fun _ _ => rfl)) iop_and)))
      (pss_one (ps_ret (pe_k c_places_of  hr (by decide) (by rfl) (pa_cons (pv 3) pa_nil)))))), ?_⟩
    refine ⟨_, rfl, n, rfl, rfl, by omega, _, _, rfl, rfl, ?_⟩
    have e1 : (2 : Int) ^ n - 1 = ((2 ^ n - 1 : Nat) : Int) := by
      have := Nat.two_pow_pos n
      rw [powN]
      omega
    first | refine sigN [some (.ref D), some (.int 0), some (.int (n : Int)), some (.int ((2 ^ n - 1 : Nat) : Int)), none, none] (by rw [← e1]; rfl) ?_ | refine sig [some (.ref D), some (.int 0), some (.int (n : Int)), some (.int ((2 ^ n - 1 : Nat) : Int)), none, none] (by rw [← e1]; rfl) ?_
    refine ⟨_, rfl, D, rfl, ⟨_, hD⟩, for_list (K := K) (a := D) (xs := ts) (fun i σ H3 => H3 = H ∧ ∃ (v1 v2 : Option V) (row : Nat), σ = [some (.ref D), some (.int 0), some (.int (n : Int)), some (.int (row : Int)), v1, v2] ∧ row < 2 ^ n ∧ ∀ j, j < n → (∀ r ∈ rs.take i, r.2.testBit j = true) → row.testBit j = true) ⟨rfl, none, none, 2 ^ n - 1, rfl, by have := Nat.two_pow_pos n; omega, fun j hj _ => ?_⟩ (fun i σ H3 _ z => z.1 ▸ hD) ?_ ?_⟩
    · rw [Nat.testBit_two_pow_sub_one]
      exact decide_eq_true hj
    · rintro i x σ H3 hi ⟨rfl, v1, v2, row, rfl, rl, hrow⟩
      obtain ⟨t, l, q', rw', rfl, hrs, ht, hl, q0⟩ := hT.get hi
      refine ⟨t, _, rfl, tup_of ht, rfl, _, _, rfl, _, _, rfl, rfl, ?_⟩
      refine ⟨_, rfl, _, rfl, _, rfl, _, rfl, _, _, rfl, rfl, q0, l, _, _, .int (rw' : Int), rfl, rfl, lst_of hl, (by rw [Int.zero_emod]; rfl), _, _, rfl, rfl, ?_⟩
      refine ⟨rfl, _, _, row &&& rw', by rw [← andN]; rfl, Nat.lt_of_le_of_lt Nat.and_le_left rl, fun j hj h => ?_⟩
      rw [List.take_succ, hrs] at h
      rw [Nat.testBit_and, hrow j hj fun r hr => h r (List.mem_append_left _ hr), h (q', rw') (List.mem_append_right _ (by simp))]
      rfl
    · rintro σ H3 ⟨rfl, v1, v2, row, rfl, rl, hrow⟩
      rw [hT.len, List.take_length] at hrow
      refine ⟨_, rfl, row, rfl, Nat.lt_of_lt_of_le rl (Nat.pow_le_pow_right (by decide) hn), fun H4 l L s4 nl gl pw hm => ?_⟩
      exact q _ l L s4 nl gl pw (fun j hj => tb_lt rl ((hm j).mp hj)) fun j hj h => (hm j).mpr (hrow j hj h)
end
end K50
set_option Elab.async false
set_option linter.all false
set_option maxRecDepth 100000
set_option maxHeartbeats 4000000
namespace K50
open PySem PySem.Spec PyProof.Rows L2 Gd QM SvM K45M PaM
open K51M (Lt sq_nn strict uniq)
theorem ix_listK {X : Cx} {K : PySem.W.Frag} (h : X.K = K) : IxR X (rIxL K) := h ▸ ix_list
theorem ix_tupK {X : Cx} {K : PySem.W.Frag} (h : X.K = K) : IxR X (rIxT K) := h ▸ ix_tup
/-- the points with this x -/
structure At (f : List Int) (x : Int) (ps : List (Int × Int)) : Prop where
  ord : ps.Pairwise Lt
  mem : ∀ u v : Int, (u, v) ∈ ps ↔ u = x ∧ v * v = ev f x
  len : ps.length ≤ 2
theorem At.none {f : List Int} {x : Int} (h : ¬ ∃ r : Int, r * r = ev f x) : At f x [] :=
  ⟨List.Pairwise.nil, fun u v => ⟨fun z => (by cases z), fun z => (h ⟨v, z.2⟩).elim⟩, by decide⟩
theorem At.zero {f : List Int} {x : Int} (h : ev f x = 0) : At f x [(x, 0)] := by
  refine ⟨List.pairwise_singleton _ _, fun u v => ?_, by show 1 ≤ 2; decide⟩
  rw [List.mem_singleton, Prod.mk.injEq, h]
  constructor
  · rintro ⟨rfl, rfl⟩
    exact ⟨rfl, rfl⟩
  · rintro ⟨rfl, z⟩
    rcases Int.mul_eq_zero.mp z with e | e <;> exact ⟨rfl, e⟩
theorem At.two {f : List Int} {x y : Int} (h : y * y = ev f x) (h0 : 0 < y) : At f x [(x, -y), (x, y)] := by
  refine ⟨?_, fun u v => ?_, by show 2 ≤ 2; decide⟩
  · refine List.pairwise_cons.mpr ⟨fun p hp => ?_, List.pairwise_singleton _ _⟩
    rw [List.mem_singleton.mp hp]
    exact Or.inr ⟨rfl, by show -y < y; omega⟩
  · rw [List.mem_cons, List.mem_singleton, Prod.mk.injEq, Prod.mk.injEq]
    constructor
    · rintro (⟨rfl, rfl⟩ | ⟨rfl, rfl⟩)
      · exact ⟨rfl, by rw [Int.neg_mul_neg]; exact h⟩
      · exact ⟨rfl, h⟩
    · rintro ⟨rfl, z⟩
      rcases K51M.sq_eq (z.trans h.symm) (by omega) with e | e
      · exact Or.inr ⟨rfl, e⟩
      · exact Or.inl ⟨rfl, e⟩
section
variable {P : Program} {w : World} {K : PySem.W.Frag} {mg : Str → Option Value} {base : Heap}
def sp_points_at_whole (K : PySem.W.Frag) : Sp := fun vs H Q _ => ∃ (p : Addr) (f : List Int) (x : Int), vs = [.ref p, .int x] ∧ SqT K H p (f.map V.int) ∧ f.length ≤ 5 ∧ (∀ c ∈ f, B 60 c) ∧ B 40 x ∧ ∀ H' l ts ps, Same H H' → H' l = some (.lst ts) → PA H' ts ps → At f x ps → Q (.ref l) H'
abbrev s_points_at_whole : Stmt := topS 14
theorem sc_points_at_whole : FnScope ["f", "x", "value", "y"] ["f", "x"] (defScope s_points_at_whole) := ⟨rfl, rfl, rfl, by decide +kernel, rfl, by decide +kernel, by decide +kernel⟩
theorem k_points_at_whole (T : Tx K mg) (D : Df K mg "points_at_whole" s_points_at_whole ["f", "x"]) (c_value_whole : Kl P w K mg base 1 "value_whole" (sp_value_whole K)) (c_root : Kl P w K mg base 1 "root" (sp_root K)) (c_is_square : Kl P w K mg base 1 "is_square" (sp_is_square K)) : Kl P w K mg base 2 "points_at_whole" (sp_points_at_whole K) := by
  have nd := sc_points_at_whole.nd
  refine Kl.by_body D sc_points_at_whole (fun vs H Q E h => ?_) (fun f cdv A outer s H vs Q E hr h => ?_)
  · obtain ⟨_, _, _, rfl, _⟩ := h
    rfl
  · obtain ⟨p, f, x, rfl, hp, hl, hB, hx, q⟩ := h
    have hu1 := hu_of hr
    refine ⟨_, (pss_cons (ps_set (i := 2) nd rfl (by first | exact Or.inl rfl | exact Or.inr rfl) (pe_k c_value_whole  hr (by decide) (by rfl) (pa_cons (pv 0) (pa_cons (pv 1) pa_nil))))
      (pss_cons (ps_if (pt_not (pt_val (pe_k c_is_square  hr (by decide) (by rfl) (pa_cons (pv 2) pa_nil)))) (pss_one (ps_ret (pe_lst pa_nil))) pss_nil)
      (pss_cons (ps_set (i := 3) nd rfl (by first | exact Or.inl rfl | exact Or.inr rfl) (pe_k c_root  hr (by decide) (by rfl) (pa_cons (pv 2) pa_nil)))
      (pss_one (ps_ret (pe_ifExp (pt_cmpR op_gt (pv 3) pe_int (nomark _)) (pe_lst (pa_cons (pe_tup (pa_cons (pv 1) (pa_cons (pe_un un_neg (pv 3)) pa_nil))) (pa_cons (pe_tup (pa_cons (pv 1) (pa_cons (pv 3) pa_nil))) pa_nil))) (pe_lst (pa_cons (pe_tup (pa_cons (pv 1) (pa_cons pe_int pa_nil))) pa_nil)))))))), ?_⟩
    have eB : B 400 (ev f x) := (ev_B hx hB).up (by omega)
    refine ⟨_, rfl, _, rfl, p, f, x, rfl, hp, hl, hB, hx, ?_⟩
    obtain ⟨n, hn⟩ : ∃ n, ev f x = n := ⟨_, rfl⟩
    first | refine sigN [some (.ref p), some (.int (x)), some (.int (ev f x)), none] (by rfl) ?_ | refine sig [some (.ref p), some (.int (x)), some (.int (ev f x)), none] (by rfl) ?_
    rw [hn] at eB ⊢
    refine ⟨_, rfl, n, rfl, eB, fun b hb => ⟨b, rfl, ?_⟩⟩
    by_cases hq : ∃ r : Int, r * r = n
    · refine iteN (by rw [hb.mpr hq]; decide) ?_
      have n0 : 0 ≤ n := by
        obtain ⟨r, hr'⟩ := hq
        rw [← hr']
        exact sq_nn r
      refine ⟨_, rfl, n, rfl, n0, eB, fun y y0 y1 y2 => ?_⟩
      have ey : y * y = n := by
        obtain ⟨r, hr'⟩ := hq
        have h1 : (r.natAbs : Int) * r.natAbs = n := by rw [Int.natAbs_mul_self' r]; exact hr'
        have h2 := y2 r.natAbs (by omega) (by omega)
        have h3 := Int.mul_le_mul h2 h2 (by omega) (by omega)
        omega
      refine ⟨_, rfl, _, _, rfl, rfl, _, rfl, ?_⟩
      by_cases hy : 0 < y
      · refine iteY (decide_eq_true hy) ?_
        refine ⟨_, rfl, _, rfl, _, rfl, (by show 2 ≤ sizeLine; decide), fun t1 n1 => ?_⟩
        have s1 := Same.new (H := H) (p := t1) (o := .tup [.int x, .int (-y)]) n1
        have g1 : upd H t1 (.tup [.int x, .int (-y)]) t1 = some (.tup [.int x, .int (-y)]) := upd_same
        generalize upd H t1 (.tup [.int x, .int (-y)]) = H1 at s1 g1 ⊢
        refine ⟨_, rfl, _, rfl, (by show 2 ≤ sizeLine; decide), fun t2 n2 => ?_⟩
        have s2 := Same.new (H := H1) (p := t2) (o := .tup [.int x, .int y]) n2
        have g2 : upd H1 t2 (.tup [.int x, .int y]) t2 = some (.tup [.int x, .int y]) := upd_same
        generalize upd H1 t2 (.tup [.int x, .int y]) = H2 at s2 g2 ⊢
        refine ⟨(by show 2 ≤ sizeLine; decide), fun l nl => ?_⟩
        have s3 := Same.new (o := .lst [.ref t1, .ref t2]) nl
        exact q _ l _ _ (s1.trans (s2.trans s3)) upd_same (.cons ((s2.trans s3) _ _ g1) (.cons (s3 _ _ g2) .nil)) (At.two (ey.trans hn.symm) hy)
      · refine iteN (by simpa using hy) ?_
        have : y = 0 := by omega
        subst this
        refine ⟨_, rfl, (by show 2 ≤ sizeLine; decide), fun t1 n1 => ?_⟩
        have s1 := Same.new (H := H) (p := t1) (o := .tup [.int x, .int 0]) n1
        have g1 : upd H t1 (.tup [.int x, .int 0]) t1 = some (.tup [.int x, .int 0]) := upd_same
        generalize upd H t1 (.tup [.int x, .int 0]) = H1 at s1 g1 ⊢
        refine ⟨(by show 1 ≤ sizeLine; decide), fun l nl => ?_⟩
        have s3 := Same.new (o := .lst [.ref t1]) nl
        exact q _ l _ _ (s1.trans s3) upd_same (.cons (s3 _ _ g1) .nil) (At.zero (hn.trans ey.symm))
    · refine iteY (by simpa using fun z => hq (hb.mp z)) ?_
      refine ⟨(by show 0 ≤ sizeLine; decide), fun l nl => q _ l _ _ (Same.new nl) upd_same .nil (At.none (by rw [hn]; exact hq))⟩
/-! ### all points with x from -B to B -/
def sp_square_places (K : PySem.W.Frag) : Sp := fun vs H Q _ => ∃ (p : Addr) (f : List Int) (b : Nat), vs = [.ref p, .int (b : Int)] ∧ SqT K H p (f.map V.int) ∧ f.length ≤ 5 ∧ (∀ c ∈ f, B 60 c) ∧ b ≤ 400000 ∧ ∀ H' t ts ps, Same H H' → H' t = some (.tup ts) → PA H' ts ps → ps.Pairwise Lt → (∀ u v : Int, (u, v) ∈ ps ↔ (-(b : Int) ≤ u ∧ u ≤ b) ∧ v * v = ev f u) → ps.length ≤ 4 * b + 2 → Q (.ref t) H'
abbrev s_square_places : Stmt := topS 15
theorem sc_square_places : FnScope ["f", "B", "length", "tables", "q", "is_digit", "at", "found"] ["f", "B"] (defScope s_square_places) := ⟨rfl, rfl, rfl, by decide +kernel, rfl, by decide +kernel, by decide +kernel⟩
theorem k_square_places (T : Tx K mg) (D : Df K mg "square_places" s_square_places ["f", "B"]) (c_places_left : Kl P w K mg base 2 "places_left" (sp_places_left K)) (c_square_digits : Kl P w K mg base 1 "square_digits" (sp_square_digits K)) (c_points_at_whole : Kl P w K mg base 2 "points_at_whole" (sp_points_at_whole K)) (c_repeated : Kl P w K mg base 1 "repeated" (sp_repeated K)) (c_value_over : Kl P w K mg base 1 "value_over" (sp_value_over K)) : Kl P w K mg base 3 "square_places" (sp_square_places K) := by
  have nd := sc_square_places.nd
  refine Kl.by_body D sc_square_places (fun vs H Q E h => ?_) (fun f cdv A outer s H vs Q E hr h => ?_)
  · obtain ⟨_, _, _, rfl, _⟩ := h
    rfl
  · obtain ⟨p, f, b, rfl, hp, hl, hB, hb, q⟩ := h
    obtain ⟨aM, cM, sM⟩ := T.c_MODULI
    have hu1 := hu_of hr
    refine ⟨_, (pss_cons (ps_set (i := 2) nd rfl (by first | exact Or.inl rfl | exact Or.inr rfl) (pe_op op_add (pe_op op_mul pe_int (pv 1)) pe_int))
      (pss_cons (ps_set (i := 3) nd rfl (by first | exact Or.inl rfl | exact Or.inr rfl) (pe_lst pa_nil))
      (pss_cons (ps_for PassesOwn.never rfl (pi_tup (pe_kon (by rfl) cM)) (pg_name (i := 4) nd rfl (by first | exact Or.inl rfl | exact Or.inr rfl)) (pss_cons (ps_set (i := 5) nd rfl (by first | exact Or.inl rfl | exact Or.inr rfl) (pe_k c_square_digits  hr (by decide) (by rfl) (pa_cons (pv 4) pa_nil)))
      (pss_one (ps_expr (pe_bm PySem.F.plainAttrs_list PySem.F.slot_list_append PySem.F.type_list_append mt_append (pv 3) (pa_cons (pe_tup (pa_cons (pv 4) (pa_cons (pe_lst (pa_cons (pe_k c_repeated  hr (by decide) (by rfl) (pa_cons (pe_lc (own := [("at", 6)]) (g := gName 6) rfl nd (pi_range1 (by rfl) T.range (pa_cons (pv 4) pa_nil)) (blkOk_by (N := ["f", "B", "length", "tables", "q", "is_digit", "at", "found"]) (sc := defScope s_square_places) (by decide +kernel)) (fun _ _ _ _ _ => (pg_name (i := 6) nd rfl (by first | exact Or.inl rfl | exact Or.inr rfl))) (fun _ _ _ _ _ => pts_nil) (fun _ _ _ _ _ => (pe_ix (ix_listK (K := K) rfl) (pv 5) (pe_k c_value_over  hr (by decide) (by rfl) (pa_cons (pv 0) (pa_cons (pe_op op_sub (pv 6) (pv 1)) (pa_cons (pv 4) pa_nil)))) (fun _ _ => rfl)))) (pa_cons (pv 2) pa_nil))) pa_nil)) pa_nil))) pa_nil))))))
      (pss_cons (ps_set (i := 7) nd rfl (by first | exact Or.inl rfl | exact Or.inr rfl) (pe_lst pa_nil))
      (pss_cons (ps_for PassesOwn.never rfl (pi_list (pe_k c_places_left  hr (by decide) (by rfl) (pa_cons (pv 3) (pa_cons pe_int (pa_cons (pv 2) pa_nil))))) (pg_name (i := 6) nd rfl (by first | exact Or.inl rfl | exact Or.inr rfl)) (pss_one (ps_expr (pe_bm PySem.F.plainAttrs_list PySem.F.slot_list_extend PySem.F.type_list_extend mt_extend (pv 7) (pa_cons (pe_k c_points_at_whole  hr (by decide) (by rfl) (pa_cons (pv 0) (pa_cons (pe_op op_sub (pv 6) (pv 1)) pa_nil))) pa_nil)))))
      (pss_one (ps_ret (pe_callTy call_tuple_of (by rfl) T.tuple (by decide +kernel) (pa_cons (pv 7) pa_nil))))))))), ?_⟩
    obtain ⟨L, hL⟩ : ∃ L : Nat, 2 * b + 1 = L := ⟨_, rfl⟩
    have eL : 2 * (b : Int) + 1 = (L : Int) := by omega
    have bB : B 30 (b : Int) := by
      unfold Gd.B
      omega
    refine ⟨_, rfl, _, _, rfl, rfl, (Or.inl ⟨by decide, by decide⟩), _, _, rfl, rfl, ?_⟩
    first | refine sigN [some (.ref p), some (.int (b : Int)), some (.int (L : Int)), none, none, none, none, none] (by rw [← eL]; rfl) ?_ | refine sig [some (.ref p), some (.int (b : Int)), some (.int (L : Int)), none, none, none, none, none] (by rw [← eL]; rfl) ?_
    refine ⟨(by show 0 ≤ sizeLine; decide), fun Dt nDt => ?_⟩
    have s1 := Same.new (H := H) (p := Dt) (o := .lst []) nDt
    have gDt : upd H Dt (.lst []) Dt = some (.lst []) := upd_same
    generalize upd H Dt (.lst []) = H1 at s1 gDt ⊢
    first | refine sigN [some (.ref p), some (.int ((b : Int))), some (.int ((L : Int))), some (.ref Dt), none, none, none, none] (by rfl) ?_ | refine sig [some (.ref p), some (.int ((b : Int))), some (.int ((L : Int))), some (.ref Dt), none, none, none, none] (by rfl) ?_
    refine ⟨aM, rfl, ⟨_, sM _⟩, for_tup (K := K) (a := aM) (xs := [.int 16, .int 9, .int 5, .int 7, .int 11, .int 13, .int 17, .int 19, .int 23, .int 29]) (fun i σ H3 => But Dt H1 H3 ∧ ∃ (ts : List V) (rs : List (Int × Nat)) (v4 v5 v6 : Option V), σ = [some (.ref p), some (.int (b : Int)), some (.int (L : Int)), some (.ref Dt), v4, v5, v6, none] ∧ H3 Dt = some (.lst ts) ∧ TabAt Dt H3 ts rs ∧ rs.length ≤ i ∧ ∀ r ∈ rs, ∀ j : Nat, j < L → (∃ y : Int, y * y = ev f ((j : Int) - b)) → r.2.testBit j = true) ⟨But.refl _ _, [], [], none, none, none, rfl, gDt, .nil, Nat.le_refl _, (by simp)⟩ (fun i σ H3 _ z => sM _) ?_ ?_⟩
    · rintro i x σ H3 hi ⟨b3, ts, rs, v4, v5, v6, rfl, g3, tab, hlen, hall⟩
      obtain ⟨m, rfl, m0, m1⟩ : ∃ m : Nat, x = .int (m : Int) ∧ 0 < m ∧ m ≤ 29 := by
        have hx := List.mem_of_getElem? hi
        simp only [List.mem_cons, List.not_mem_nil, or_false] at hx
        rcases hx with rfl | rfl | rfl | rfl | rfl | rfl | rfl | rfl | rfl | rfl
        · exact ⟨16, rfl, by decide, by decide⟩
        · exact ⟨9, rfl, by decide, by decide⟩
        · exact ⟨5, rfl, by decide, by decide⟩
        · exact ⟨7, rfl, by decide, by decide⟩
        · exact ⟨11, rfl, by decide, by decide⟩
        · exact ⟨13, rfl, by decide, by decide⟩
        · exact ⟨17, rfl, by decide, by decide⟩
        · exact ⟨19, rfl, by decide, by decide⟩
        · exact ⟨23, rfl, by decide, by decide⟩
        · exact ⟨29, rfl, by decide, by decide⟩
      have hi10 : i < 10 := (List.getElem?_eq_some_iff.mp hi).1
      first | refine sigN [some (.ref p), some (.int ((b : Int))), some (.int ((L : Int))), some (.ref Dt), some (.int ((m : Int))), v5, v6, none] (by rfl) ?_ | refine sig [some (.ref p), some (.int ((b : Int))), some (.int ((L : Int))), some (.ref Dt), some (.int ((m : Int))), v5, v6, none] (by rfl) ?_
      refine ⟨_, rfl, m, rfl, m0, by omega, fun H4 ld bs s4 gld sd => ?_⟩
      first | refine sigN [some (.ref p), some (.int ((b : Int))), some (.int ((L : Int))), some (.ref Dt), some (.int ((m : Int))), some (.ref ld), v6, none] (by rfl) ?_ | refine sig [some (.ref p), some (.int ((b : Int))), some (.int ((L : Int))), some (.ref Dt), some (.int ((m : Int))), some (.ref ld), v6, none] (by rfl) ?_
      have g4 := s4 _ _ g3
      have p4 : SqT K H4 p (f.map V.int) := by
        have := Same.tup s1 hp
        rcases this with (z | ⟨o, z⟩) | z
        · exact Or.inl (Or.inl (s4 _ _ (b3 _ _ z (ne_of z gDt (by intro w; cases w)))))
        · exact Or.inl (Or.inr ⟨o, s4 _ _ (b3 _ _ z (ne_of z gDt (by intro w; cases w)))⟩)
        · exact Or.inr z
      refine ⟨.ref Dt, rfl, .inl ⟨rfl, _, lst_of g4⟩, _, rfl, _, rfl, (m : Int), rfl, by omega, by omega, fun Dk nDk => ?_⟩
      refine lc_range (lo := 0) (n := (m : Int).toNat) (fun t H5 => Same H4 H5 ∧ H5 Dk = some (.lst (((List.range t).map fun (j : Nat) => bs.getD (ev f ((j : Int) - b) % (m : Int)).toNat false).map V.bl))) ⟨Same.new nDk, upd_same⟩ (fun t H5 ht z => ?_) (fun H5 z => ?_)
      · obtain ⟨s5, g5⟩ := z
        have jB : B 40 ((0 : Int) + (t : Int) - b) := by
          unfold Gd.B
          omega
        have dg := Dg.mod (n := (m : Int)) (a := ev f ((t : Int) - b)) (by omega)
        unfold Dg at dg
        have hlt : (ev f ((t : Int) - b) % (m : Int)).toNat < bs.length := by
          rw [sd.len]
          omega
        refine ⟨rfl, _, rfl, _, rfl, _, rfl, _, rfl, _, _, rfl, rfl, _, rfl, p, f, _, _, rfl, Same.tup s5 p4, hl, hB, jB, by omega, by omega, ?_⟩
        rw [Int.zero_add]
        refine ⟨ld, _, _, .bl (bs.getD (ev f ((t : Int) - b) % (m : Int)).toNat false), rfl, rfl, lst_of (s5 _ _ gld), ?_, ?_⟩
        · have := atI_nat (map_bl (getD_of hlt))
          rw [Int.toNat_of_nonneg dg.1] at this
          exact this
        · refine ⟨_, g5, ?_, Same.put s5 nDk, ?_⟩
          · rw [List.length_map, List.length_map, List.length_range]
            exact small1000 (by omega)
          · rw [upd_same, List.range_succ, List.map_append, List.map_append]
            rfl
      · obtain ⟨s5, g5⟩ := z
        rw [Int.toNat_natCast] at g5
        obtain ⟨kb, hkb⟩ : ∃ kb, ((List.range m).map fun (j : Nat) => bs.getD (ev f ((j : Int) - b) % (m : Int)).toNat false) = kb := ⟨_, rfl⟩
        rw [hkb] at g5
        have klen : kb.length = m := by rw [← hkb, List.length_map, List.length_range]
        have kget : ∀ j, j < m → kb.getD j false = bs.getD (ev f ((j : Int) - b) % (m : Int)).toNat false := by
          intro j hj
          rw [← hkb, List.getD_eq_getElem?_getD, List.getElem?_map, List.getElem?_range hj]
          rfl
        refine ⟨_, rfl, Dk, kb, L, rfl, lst_of g5, by omega, by omega, by omega, fun row bt => ?_⟩
        refine ⟨(by show 1 ≤ sizeLine; decide), fun lr nlr => ?_⟩
        have s6 := Same.new (H := H5) (p := lr) (o := .lst [.int (row : Int)]) nlr
        have glr : upd H5 lr (.lst [.int (row : Int)]) lr = some (.lst [.int (row : Int)]) := upd_same
        generalize upd H5 lr (.lst [.int (row : Int)]) = H6 at s6 glr ⊢
        refine ⟨(by show 2 ≤ sizeLine; decide), fun t nt => ?_⟩
        have s7 := Same.new (H := H6) (p := t) (o := .tup [.int (m : Int), .ref lr]) nt
        have gt : upd H6 t (.tup [.int (m : Int), .ref lr]) t = some (.tup [.int (m : Int), .ref lr]) := upd_same
        generalize upd H6 t (.tup [.int (m : Int), .ref lr]) = H7 at s7 gt ⊢
        have sA := s4.trans (s5.trans (s6.trans s7))
        have g7 := sA _ _ g3
        have lrne : lr ≠ Dt := by
          rintro rfl
          rw [(s4.trans s5) _ _ g3] at nlr
          cases nlr
        refine ⟨Dt, _, _, rfl, rfl, g7, small1000 (by rw [tab.len]; omega), ?_⟩
        refine ⟨b3.trans ((But.of sA).trans But.upd), _, rs ++ [((m : Int), row)], _, _, _, rfl, upd_same, TabAt.put g7 ((tab.same sA).app (.cons gt (s7 _ _ glr) lrne (by omega) .nil)), by rw [List.length_append]; exact Nat.add_le_add_right hlen 1, ?_⟩
        intro r hr j hj hy
        rcases List.mem_append.mp hr with z | z
        · exact hall r z j hj hy
        · rw [List.mem_singleton.mp z]
          show row.testBit j = true
          rw [bt j, klen, kget _ (Nat.mod_lt _ m0)]
          obtain ⟨y, hy⟩ := hy
          have e1 : Mo (m : Int) (ev f (((j % m : Nat) : Int) - b)) (y * y) := by
            rw [hy]
            refine ev_mo (Mo.sub ?_ Mo.rfl') f
            have : ((j % m : Nat) : Int) = (j : Int) % (m : Int) := by push_cast; rfl
            rw [this]
            exact Mo.mod
          have dy := Dg.mod (n := (m : Int)) (a := y) (by omega)
          unfold Dg at dy
          have e2 : ev f (((j % m : Nat) : Int) - b) % (m : Int) = (((y % (m : Int)).toNat * (y % (m : Int)).toNat % m : Nat) : Int) := by
            refine Eq.trans (show ev f (((j % m : Nat) : Int) - b) % (m : Int) = y * y % (m : Int) from e1) ?_
            push_cast
            rw [Int.toNat_of_nonneg dy.1]
            exact (show Mo (m : Int) (y * y) (y % (m : Int) * (y % (m : Int))) from (Mo.mod.mul Mo.mod).symm)
          rw [e2, Int.toNat_natCast, (sd.mem _).mpr ⟨(y % (m : Int)).toNat, by omega, rfl⟩]
          simp [hj]
    · rintro σ H3 ⟨b3, ts, rs, v4, v5, v6, rfl, g3, tab, hlen, hall⟩
      refine ⟨(by show 0 ≤ sizeLine; decide), fun Df nDf => ?_⟩
      have s4 := Same.new (H := H3) (p := Df) (o := .lst []) nDf
      have gDf : upd H3 Df (.lst []) Df = some (.lst []) := upd_same
      generalize upd H3 Df (.lst []) = H4 at s4 gDf ⊢
      first | refine sigN [some (.ref p), some (.int ((b : Int))), some (.int ((L : Int))), some (.ref Dt), v4, v5, v6, some (.ref Df)] (by rfl) ?_ | refine sig [some (.ref p), some (.int ((b : Int))), some (.int ((L : Int))), some (.ref Dt), v4, v5, v6, some (.ref Df)] (by rfl) ?_
      refine ⟨_, rfl, _, rfl, Dt, L, ts, rs, rfl, lst_of (s4 _ _ g3), tab.same s4, by omega, fun H5 l Ls s5 nl gl pw hlt hin => ?_⟩
      have lne : l ≠ Df := by
        rintro rfl
        rw [gDf] at nl
        cases nl
      have gDf5 := s5 _ _ gDf
      have lsLen : Ls.length ≤ L := by
        have := len_le (a := 0) (n := L) pw (fun j hj => ⟨Nat.zero_le _, hlt j hj⟩) (Nat.zero_le _)
        omega
      have p5 : SqT K H5 p (f.map V.int) := by
        have := Same.tup s1 hp
        rcases this with (z | ⟨o, z⟩) | z
        · exact Or.inl (Or.inl ((s4.trans s5) _ _ (b3 _ _ z (ne_of z gDt (by intro w; cases w)))))
        · exact Or.inl (Or.inr ⟨o, (s4.trans s5) _ _ (b3 _ _ z (ne_of z gDt (by intro w; cases w)))⟩)
        · exact Or.inr z
      refine ⟨l, rfl, ⟨_, lst_of gl⟩, for_list (K := K) (a := l) (xs := natL Ls) (fun i σ H6 => But Df H5 H6 ∧ ∃ (us : List V) (ps : List (Int × Int)) (v6 : Option V), σ = [some (.ref p), some (.int (b : Int)), some (.int (L : Int)), some (.ref Dt), v4, v5, v6, some (.ref Df)] ∧ H6 Df = some (.lst us) ∧ PA H6 us ps ∧ ps.Pairwise Lt ∧ ps.length ≤ 2 * i ∧ ∀ u v : Int, (u, v) ∈ ps ↔ (∃ j ∈ Ls.take i, u = (j : Int) - b) ∧ v * v = ev f u) ⟨But.refl _ _, [], [], v6, rfl, gDf5, .nil, List.Pairwise.nil, Nat.le_refl _, (by simp)⟩ (fun i σ H6 _ z => lst_of (z.1 _ _ gl lne)) ?_ ?_⟩
      · rintro i x σ H6 hi ⟨b6, us, ps, v6, rfl, g6, pa, ho, hlen2, hm⟩
        obtain ⟨j, hj, rfl⟩ : ∃ j : Nat, Ls[i]? = some j ∧ x = .int (j : Int) := by
          unfold natL at hi
          rw [List.getElem?_map] at hi
          cases e : Ls[i]? with
          | none =>
            rw [e] at hi
            cases hi
          | some j =>
            rw [e] at hi
            exact ⟨j, rfl, (Option.some.inj hi).symm⟩
        have iL : i < Ls.length := (List.getElem?_eq_some_iff.mp hj).1
        have jL := hlt j (List.mem_of_getElem? hj)
        first | refine sigN [some (.ref p), some (.int ((b : Int))), some (.int ((L : Int))), some (.ref Dt), v4, v5, some (.int ((j : Int))), some (.ref Df)] (by rfl) ?_ | refine sig [some (.ref p), some (.int ((b : Int))), some (.int ((L : Int))), some (.ref Dt), v4, v5, some (.int ((j : Int))), some (.ref Df)] (by rfl) ?_
        have jB : B 40 ((j : Int) - b) := by
          unfold Gd.B
          omega
        have p6 : SqT K H6 p (f.map V.int) := by
          rcases p5 with (z | ⟨o, z⟩) | z
          · exact Or.inl (Or.inl (b6 _ _ z (ne_of z gDf5 (by intro w; cases w))))
          · exact Or.inl (Or.inr ⟨o, b6 _ _ z (ne_of z gDf5 (by intro w; cases w))⟩)
          · exact Or.inr z
        refine ⟨.ref Df, rfl, .inl ⟨rfl, _, lst_of g6⟩, _, rfl, _, rfl, _, rfl, _, _, rfl, rfl, p, f, _, rfl, p6, hl, hB, jB, fun H7 l7 ws qs s7 gl7 pa7 at7 => ?_⟩
        have g7 := s7 _ _ g6
        have wl : ws.length ≤ 2 := by
          rw [pa7.len]
          exact at7.len
        refine ⟨Df, l7, us, _, rfl, rfl, g7, gl7, Nat.le_trans (show us.length + ws.length ≤ 1700000 by rw [pa.len]; omega) (by decide), ?_⟩
        refine ⟨b6.trans ((But.of s7).trans But.upd), _, _, _, rfl, upd_same, PA.put g7 ((pa.same s7).app pa7), ?_, ?_, ?_⟩
        · refine List.pairwise_append.mpr ⟨ho, at7.ord, ?_⟩
          rintro ⟨u1, w1⟩ h1 ⟨u2, w2⟩ h2
          obtain ⟨⟨j1, hj1, e1⟩, -⟩ := (hm u1 w1).mp h1
          obtain ⟨e2, -⟩ := (at7.mem u2 w2).mp h2
          left
          obtain ⟨k, hk⟩ := List.mem_iff_getElem?.mp hj1
          have ki : k < i := by
            have := (List.getElem?_eq_some_iff.mp hk).1
            rw [List.length_take] at this
            omega
          rw [List.getElem?_take_of_lt ki] at hk
          obtain ⟨q1, r1⟩ := List.getElem?_eq_some_iff.mp hk
          obtain ⟨q2, r2⟩ := List.getElem?_eq_some_iff.mp hj
          have := List.pairwise_iff_getElem.mp pw k i q1 q2 ki
          rw [r1, r2] at this
          show u1 < u2
          omega
        · rw [List.length_append]
          have := at7.len
          omega
        · intro u v
          rw [List.mem_append, hm, at7.mem, List.take_succ, hj]
          constructor
          · rintro (⟨⟨j1, h1, e1⟩, e2⟩ | ⟨rfl, e2⟩)
            · exact ⟨⟨j1, List.mem_append_left _ h1, e1⟩, e2⟩
            · exact ⟨⟨j, List.mem_append_right _ (by simp), rfl⟩, e2⟩
          · rintro ⟨⟨j1, h1, e1⟩, e2⟩
            rcases List.mem_append.mp h1 with z | z
            · exact Or.inl ⟨⟨j1, z, e1⟩, e2⟩
            · have : j1 = j := by simpa using z
              subst this
              subst e1
              exact Or.inr ⟨rfl, e2⟩
      · rintro σ H6 ⟨b6, us, ps, v6, rfl, g6, pa, ho, hlen2, hm⟩
        have nlen : (natL Ls).length = Ls.length := by
          unfold natL
          rw [List.length_map]
        rw [nlen] at hm hlen2
        rw [List.take_length] at hm
        refine ⟨_, rfl, Df, us, rfl, .inl ⟨lst_of g6, fun t nt => ?_⟩⟩
        have s7 := Same.new (o := .tup us) nt
        have sB : Same H H6 := by
          have h1 : Same H H3 := But.same s1 b3 nDt
          have nDf0 : H Df = none := h1.free nDf
          exact But.same (h1.trans (s4.trans s5)) b6 nDf0
        refine q _ t us ps (sB.trans s7) upd_same (pa.same s7) ho (fun u v => (hm u v).trans ?_) (by omega)
        constructor
        · rintro ⟨⟨j, hj, e1⟩, e2⟩
          have := hlt j hj
          exact ⟨by omega, e2⟩
        · rintro ⟨⟨h1, h2⟩, e2⟩
          refine ⟨⟨(u + b).toNat, ?_, by omega⟩, e2⟩
          refine hin _ (by omega) fun r hr => hall r hr _ (by omega) ⟨v, ?_⟩
          rw [show (((u + b).toNat : Nat) : Int) - b = u by omega]
          exact e2
/-! ### whole_within -/
def sp_whole_within (K : PySem.W.Frag) : Sp := fun vs H Q _ => ∃ (p : Addr) (a b c : Int) (m : Nat), vs = [.ref p, .int (m : Int)] ∧ SqT K H p [.int a, .int b, .int c] ∧ B 60 a ∧ B 60 b ∧ B 60 c ∧ m ≤ 400000 ∧ ∀ H' t ts ps, Same H H' → H' t = some (.tup ts) → PA H' ts ps → ps.Pairwise Lt → (∀ u v : Int, (u, v) ∈ ps ↔ (-(m : Int) ≤ u ∧ u ≤ m) ∧ v * v = ev [c, b, a, 1] u) → ps.length ≤ 4 * m + 2 → Q (.ref t) H'
end
end K50
set_option Elab.async false
set_option linter.all false
set_option maxRecDepth 100000
set_option maxHeartbeats 4000000
namespace K50
open PySem PySem.Spec PyProof.Rows L2 Gd QM
section
variable {P : Program} {w : World} {K : PySem.W.Frag} {mg : Str → Option Value} {base : Heap}
/-! ### one draw -/
def sp_law_draw (K : PySem.W.Frag) : Sp := fun vs H Q _ => ∃ (m cl : Addr) (b : Int) (n : Nat), vs = [.ref m, .int b] ∧ 0 < b ∧ b < 1073741824 ∧ n ≤ 1000000 ∧ MAt H m cl n ∧ ∀ H' r, But m H H' → MAt H' m cl (n + 1) → 0 ≤ r → r < b → Q (.int r) H'
abbrev s__law_draw : Stmt := topS 21
theorem sc__law_draw : FnScope ["m", "below", "found", "spot", "cells", "extra", "cell", "blend"] ["m", "below"] (defScope s__law_draw) := ⟨rfl, rfl, rfl, by decide +kernel, rfl, by decide +kernel, by decide +kernel⟩
theorem k_law_draw (T : Tx K mg) (D : Df K mg "_law_draw" s__law_draw ["m", "below"])  : Kl P w K mg base 1 "_law_draw" (sp_law_draw K) := by
  have nd := sc__law_draw.nd
  refine Kl.by_body D sc__law_draw (fun vs H Q E h => ?_) (fun f cdv A outer s H vs Q E hr h => ?_)
  · obtain ⟨_, _, _, _, rfl, _⟩ := h
    rfl
  · obtain ⟨m, c, b, n, rfl, hb0, hb1, hn, ⟨L, s0, cs, k, hm, hk, hc, hl⟩, q⟩ := h
    have hu1 := hu_of hr
    refine ⟨_, (pss_cons (ps_if (pt_cmpR op_gt (pe_dget hu1 (pv 0) pe_str (fun _ _ => rfl)) pe_int (nomark _)) (pss_cons (ps_set (i := 2) nd rfl (by first | exact Or.inl rfl | exact Or.inr rfl) (pe_op op_mod (pe_callTy call_intI (by rfl) T.int (by decide +kernel) (pa_cons (pe_dget hu1 (pv 0) pe_str (fun _ _ => rfl)) pa_nil)) (pv 1)))
      (pss_cons (ps_dput hu1 (pv 0) pe_str (pe_op op_fdivN (pe_dget hu1 (pv 0) pe_str (fun _ _ => rfl)) (pv 1)) rfl)
      (pss_one (ps_ret (pv 2))))) pss_nil)
      (pss_cons (ps_set (i := 3) nd rfl (by first | exact Or.inl rfl | exact Or.inr rfl) (pe_dget hu1 (pv 0) pe_str (fun _ _ => rfl)))
      (pss_cons (ps_dput hu1 (pv 0) pe_str (pe_op op_add (pv 3) pe_int) rfl)
      (pss_cons (ps_par (i := 4) (j := 5) (by rfl) nd rfl rfl (by decide) rfl rfl (pa_cons (pe_dget hu1 (pv 0) pe_str (fun _ _ => rfl)) (pa_cons (pe_op op_add (pe_dget hu1 (pv 0) pe_str (fun _ _ => rfl)) (pe_op op_mulW (pe_op op_mul pe_int (pv 3)) (pv 3))) pa_nil)) (by rfl))
      (pss_cons (ps_set (i := 6) nd rfl (by first | exact Or.inl rfl | exact Or.inr rfl) (pe_ix ix_list (pv 4) (pe_op op_mod (pe_callTy call_intI (by rfl) T.int (by decide +kernel) (pa_cons (pv 3) pa_nil)) (pe_callB call_len_seq (by rfl) T.len (by decide +kernel) (pa_cons (pv 4) pa_nil))) (fun _ _ => rfl)))
      (pss_cons (ps_set (i := 7) nd rfl (by first | exact Or.inl rfl | exact Or.inr rfl) (pe_op op_mod (pe_callTy call_intI (by rfl) T.int (by decide +kernel) (pa_cons (pe_op op_add (pe_op op_mul (pv 6) (pe_op op_add (pe_op op_mul pe_int (pv 3)) pe_int)) (pv 5)) pa_nil)) pe_int))
      (pss_cons (ps_set (i := 7) nd rfl (by first | exact Or.inl rfl | exact Or.inr rfl) (pe_op op_mod (pe_callTy call_intI (by rfl) T.int (by decide +kernel) (pa_cons (pe_op op_add (pe_op op_add (pe_op op_mul (pv 7) (pv 7)) (pe_op op_mul pe_int (pv 3))) (pe_dget hu1 (pv 0) pe_str (fun _ _ => rfl))) pa_nil)) pe_int))
      (pss_one (ps_ret (pe_op op_mod (pe_op op_fdiv (pe_op op_mod (pe_callTy call_intI (by rfl) T.int (by decide +kernel) (pa_cons (pe_op op_add (pe_op op_mul (pv 7) pe_int) (pv 3)) pa_nil)) pe_int) pe_int) (pv 1))))))))))), ?_⟩
    have gL : DGet H m (.str "left") (some (.int L)) := m4_left (L := L) ▸ DGet.k (k := Sum.inr "left") hm
    have ncm : c ≠ m := ne_of hc hm (by intro z; cases z)
    refine ⟨_, rfl, m, _, rfl, gL, _, _, rfl, rfl, _, rfl, ite2 (fun e => ?_) (fun e => ?_)⟩
    · refine ⟨_, rfl, m, _, rfl, gL, _, rfl, _, rfl, _, _, rfl, rfl, hb0, ?_⟩
      refine ⟨_, rfl, m, _, rfl, gL, _, rfl, _, _, rfl, rfl, ⟨by omega, by omega⟩, _, rfl, m, _, rfl, DPut.k (k := Sum.inr "left") hm (small1000 (by show 4 ≤ 1000; decide)), ?_⟩
      rw [m4_putL]
      refine ⟨_, rfl, ?_⟩
      refine q _ _ But.upd ⟨_, s0, cs, k, upd_same, by omega, ?_, hl⟩ (Int.emod_nonneg _ (by omega)) (Int.emod_lt_of_pos _ hb0)
      rw [upd_ne ncm]
      exact hc
    · have gS : DGet H m (.str "spot") (some (.int k)) := m4_spot (n := k) ▸ DGet.k (k := Sum.inr "spot") hm
      refine ⟨_, rfl, m, _, rfl, gS, ?_⟩
      refine ⟨_, rfl, _, _, rfl, rfl, _, rfl, m, _, rfl, DPut.k (k := Sum.inr "spot") hm (small1000 (by show 4 ≤ 1000; decide)), ?_⟩
      rw [m4_putS]
      have hm2 : (upd H m (HO.dK (mk4 L s0 c (k + 1)))) m = some (.dK (mk4 L s0 c (k + 1))) := upd_same
      have hc2 : (upd H m (HO.dK (mk4 L s0 c (k + 1)))) c = some (.lst (cs.map V.int)) := by
        rw [upd_ne ncm]
        exact hc
      have bt : But m H (upd H m (HO.dK (mk4 L s0 c (k + 1)))) := But.upd
      generalize upd H m (HO.dK (mk4 L s0 c (k + 1))) = H2 at hm2 hc2 bt ⊢
      have gC : DGet H2 m (.str "cells") (some (.ref c)) := m4_cells (c := c) ▸ DGet.k (k := Sum.inr "cells") hm2
      have gE : DGet H2 m (.str "seed") (some (.int s0)) := m4_seed (s := s0) ▸ DGet.k (k := Sum.inr "seed") hm2
      have bk : B 20 (k : Int) := by
        unfold B
        omega
      refine ⟨_, rfl, m, _, rfl, gC, _, rfl, m, _, rfl, gE, _, rfl, _, _, rfl, rfl, (Or.inl ⟨by decide, by decide⟩), _, rfl, _, _, rfl, rfl, ((B.lit (n := 20) (by decide)).mul bk).mulW bk (by decide), _, _, rfl, rfl, _, _, rfl, ?_⟩
      have hlz : (0 : Int) < ((cs.map V.int).length : Int) := by
        rw [List.length_map]
        omega
      have hix : ∃ z : Int, atI (cs.map V.int) ((k : Int) % ((cs.map V.int).length : Int)) = some (.int z) := by
        rw [List.length_map]
        have h1 : k % cs.length < cs.length := Nat.mod_lt _ hl
        refine ⟨cs[k % cs.length], ?_⟩
        rw [← Int.natCast_emod]
        refine atI_nat ?_
        rw [List.getElem?_map, List.getElem?_eq_getElem h1]
        rfl
      obtain ⟨z, hz⟩ := hix
      refine ⟨_, rfl, _, rfl, _, rfl, _, rfl, c, _, rfl, .inl (.inl (.inl hc2)), _, _, rfl, rfl, hlz, c, _, _, _, rfl, rfl, .inl (.inl hc2), hz, ?_⟩
      have bk2 : B 30 (2 * (k : Int) + 3) := by
        unfold B
        omega
      refine ⟨_, rfl, _, rfl, _, _, rfl, rfl, (Or.inl ⟨by decide, by decide⟩), _, _, rfl, rfl, _, _, rfl, rfl, bk2.mulR (by decide), _, rfl, _, _, rfl, rfl, _, rfl, _, _, rfl, rfl, (by show (0 : Int) < 2147483647; decide), ?_⟩
      have be : ∀ y : Int, B 32 (y % 2147483647) := fun y => by
        have h1 := Int.emod_nonneg y (show (2147483647 : Int) ≠ 0 by decide)
        have h2 := Int.emod_lt_of_pos y (show (0 : Int) < 2147483647 by decide)
        unfold B
        omega
      refine ⟨_, rfl, _, rfl, _, _, rfl, rfl, (be _).mulR (by decide), _, rfl, _, _, rfl, rfl, (Or.inl ⟨by decide, by decide⟩), _, _, rfl, rfl, _, rfl, m, _, rfl, gE, _, _, rfl, rfl, _, rfl, _, _, rfl, rfl, (by show (0 : Int) < 2147483629; decide), ?_⟩
      refine ⟨_, rfl, _, _, rfl, rfl, (Or.inr ⟨by decide, by decide⟩), _, rfl, _, _, rfl, rfl, _, rfl, _, _, rfl, rfl, (by show (0 : Int) < 2147483647; decide), _, _, rfl, rfl, ⟨by decide, by decide⟩, _, rfl, _, _, rfl, rfl, hb0, ?_⟩
      exact q _ _ bt ⟨L, s0, cs, k + 1, hm2, by omega, hc2, hl⟩ (Int.emod_nonneg _ (by omega)) (Int.emod_lt_of_pos _ hb0)
/-! ### one of some -/
def sp_law_of (K : PySem.W.Frag) : Sp := fun vs H Q _ => ∃ (m cl a : Addr) (xs : List V) (n : Nat), vs = [.ref m, .ref a] ∧ SqL K H a xs ∧ 0 < xs.length ∧ xs.length ≤ 1000 ∧ n ≤ 1000000 ∧ MAt H m cl n ∧ ∀ H' x, But m H H' → MAt H' m cl (n + 1) → x ∈ xs → Q x H'
abbrev s__law_of : Stmt := topS 22
theorem sc__law_of : FnScope ["m", "some"] ["m", "some"] (defScope s__law_of) := ⟨rfl, rfl, rfl, by decide +kernel, rfl, by decide +kernel, by decide +kernel⟩
theorem k_law_of (T : Tx K mg) (D : Df K mg "_law_of" s__law_of ["m", "some"]) (c_law_draw : Kl P w K mg base 1 "_law_draw" (sp_law_draw K)) : Kl P w K mg base 2 "_law_of" (sp_law_of K) := by
  have nd := sc__law_of.nd
  refine Kl.by_body D sc__law_of (fun vs H Q E h => ?_) (fun f cdv A outer s H vs Q E hr h => ?_)
  · obtain ⟨_, _, _, _, _, rfl, _⟩ := h
    rfl
  · obtain ⟨m, cl, a, xs, n, rfl, hx, h0, h1, hn, hM, q⟩ := h
    have hu1 := hu_of hr
    refine ⟨_, (pss_one (ps_ret (pe_ix ix_list (pv 1) (pe_k c_law_draw  hr (by decide) (by rfl) (pa_cons (pv 0) (pa_cons (pe_callB call_len_seq (by rfl) T.len (by decide +kernel) (pa_cons (pv 1) pa_nil)) pa_nil))) (fun _ _ => rfl)))), ?_⟩
    refine ⟨.ref a, rfl, _, rfl, .ref a, rfl, a, xs, rfl, .inl hx, m, cl, _, n, rfl, by omega, by omega, hn, hM, fun H1 r b1 m1 r0 r1 => ?_⟩
    have hr1 : r.toNat < xs.length := by omega
    refine ⟨a, xs, r, xs[r.toNat], rfl, rfl, b1.seqL hM hx, ?_, q _ _ b1 m1 (List.getElem_mem hr1)⟩
    have key : atI xs ((r.toNat : Nat) : Int) = some xs[r.toNat] := atI_nat (List.getElem?_eq_getElem hr1)
    rw [show ((r.toNat : Nat) : Int) = r by omega] at key
    exact key
/-! ### between -/
def sp_law_between (K : PySem.W.Frag) : Sp := fun vs H Q _ => ∃ (m cl : Addr) (z : Int) (n : Nat), vs = [.ref m, .int z] ∧ 0 ≤ z ∧ z ≤ 100000 ∧ n ≤ 1000000 ∧ MAt H m cl n ∧ ∀ H' r, But m H H' → MAt H' m cl (n + 1) → -z ≤ r → r ≤ z → Q (.int r) H'
abbrev s__law_between : Stmt := topS 23
theorem sc__law_between : FnScope ["m", "size"] ["m", "size"] (defScope s__law_between) := ⟨rfl, rfl, rfl, by decide +kernel, rfl, by decide +kernel, by decide +kernel⟩
theorem k_law_between (T : Tx K mg) (D : Df K mg "_law_between" s__law_between ["m", "size"]) (c_law_draw : Kl P w K mg base 1 "_law_draw" (sp_law_draw K)) : Kl P w K mg base 2 "_law_between" (sp_law_between K) := by
  have nd := sc__law_between.nd
  refine Kl.by_body D sc__law_between (fun vs H Q E h => ?_) (fun f cdv A outer s H vs Q E hr h => ?_)
  · obtain ⟨_, _, _, _, rfl, _⟩ := h
    rfl
  · obtain ⟨m, cl, z, n, rfl, h0, h1, hn, hM, q⟩ := h
    have hu1 := hu_of hr
    refine ⟨_, (pss_one (ps_ret (pe_op op_sub (pe_k c_law_draw  hr (by decide) (by rfl) (pa_cons (pv 0) (pa_cons (pe_op op_add (pe_op op_mul pe_int (pv 1)) pe_int) pa_nil))) (pv 1)))), ?_⟩
    refine ⟨_, rfl, _, rfl, _, _, rfl, rfl, (Or.inl ⟨by decide, by decide⟩), _, _, rfl, rfl, m, cl, _, n, rfl, by omega, by omega, hn, hM, fun H1 r b1 m1 r0 r1 => ?_⟩
    refine ⟨_, rfl, _, _, rfl, rfl, ?_⟩
    exact q _ _ b1 m1 (by omega) (by omega)
/-! ### the state of a turn -/
def sp_law_begun (K : PySem.W.Frag) : Sp := fun vs H Q _ => ∃ (a : Addr) (k : Int) (ns : List Int), vs = [.ref a, .int k] ∧ SqL K H a (ns.map V.int) ∧ ns.length ≤ 63 ∧ 0 ≤ k ∧ k ≤ 100 ∧ ∀ H' m cl, Same H H' → H m = none → H cl = none → MAt H' m cl 0 → Q (.ref m) H'
theorem cut_int {ns : List Int} (lo hi : Option Int) : ∃ ms : List Int, cutV (ns.map V.int) lo hi = ms.map V.int ∧ ms.length ≤ ns.length := by
  unfold cutV
  refine ⟨(ns.drop (HT.sIx (ns.map V.int).length 0 lo)).take (HT.sIx (ns.map V.int).length (ns.map V.int).length hi - HT.sIx (ns.map V.int).length 0 lo), ?_, ?_⟩
  · rw [List.map_take, List.map_drop]
  · rw [List.length_take, List.length_drop]
    omega
abbrev s__law_begun : Stmt := topS 20
theorem sc__law_begun : FnScope ["script", "k", "cells", "great", "cell", "begun", "left"] ["script", "k"] (defScope s__law_begun) := ⟨rfl, rfl, rfl, by decide +kernel, rfl, by decide +kernel, by decide +kernel⟩
theorem k_law_begun (T : Tx K mg) (D : Df K mg "_law_begun" s__law_begun ["script", "k"])  : Kl P w K mg base 1 "_law_begun" (sp_law_begun K) := by
  have nd := sc__law_begun.nd
  refine Kl.by_body D sc__law_begun (fun vs H Q E h => ?_) (fun f cdv A outer s H vs Q E hr h => ?_)
  · obtain ⟨_, _, _, rfl, _⟩ := h
    rfl
  · obtain ⟨a, k, ns, rfl, hx, hl, hk0, hk1, q⟩ := h
    have hu1 := hu_of hr
    refine ⟨_, (pss_cons (ps_set (i := 2) nd rfl (by first | exact Or.inl rfl | exact Or.inr rfl) (pe_op op_cat (pe_slice sl_list (pv 0) (po_some (pv 1)) po_none) (pe_slice sl_list (pv 0) po_none (po_some (pv 1)))))
      (pss_cons (ps_setLc (i := 3) (own := [("cell", 4)]) (g := gName 4) rfl nd rfl rfl (sw_true rfl rfl rfl (by decide +kernel)) (pi_list (pv 0)) (blkOk_by (N := ["script", "k", "cells", "great", "cell", "begun", "left"]) (sc := defScope s__law_begun) (by decide +kernel)) (fun _ _ _ _ _ => (pg_name (i := 4) nd rfl (by first | exact Or.inl rfl | exact Or.inr rfl))) (fun _ _ _ _ _ => (pts_one (pt_cmpR op_ge (pv 4) (pe_op op_pow pe_int pe_int) (nomark _)))) (fun _ _ _ _ _ => (pv 4)))
      (pss_cons (ps_set (i := 5) nd rfl (by first | exact Or.inl rfl | exact Or.inr rfl) (pe_op op_add pe_int (pe_op op_mul pe_int (pv 1))))
      (pss_cons (ps_for PassesOwn.never rfl (pi_list (pv 2)) (pg_name (i := 4) nd rfl (by first | exact Or.inl rfl | exact Or.inr rfl)) (pss_one (ps_set (i := 5) nd rfl (by first | exact Or.inl rfl | exact Or.inr rfl) (pe_op op_mod (pe_callTy call_intI (by rfl) T.int (by decide +kernel) (pa_cons (pe_op op_add (pe_op op_mul (pv 5) pe_int) (pv 4)) pa_nil)) pe_int))))
      (pss_cons (ps_set (i := 6) nd rfl (by first | exact Or.inl rfl | exact Or.inr rfl) (pe_ifExp (pt_cmpR op_lt (pv 1) (pe_callB call_len_seq (by rfl) T.len (by decide +kernel) (pa_cons (pv 3) pa_nil)) (nomark _)) (pe_ix ix_list (pv 3) (pv 1) (fun _ _ => rfl)) pe_int))
      (pss_one (ps_ret (pe_disp (pps_cons pe_str (pv 6) (pps_cons pe_str (pv 5) (pps_cons pe_str (pe_op op_cat (pv 2) (pe_lst (pa_cons (pe_op op_add (pe_op op_mul pe_int (pv 1)) pe_int) pa_nil))) (pps_cons pe_str pe_int pps_nil)))) (by rfl) (by rfl) (fun z => by cases z) (by decide))))))))), ?_⟩
    obtain ⟨m1, e1, l1⟩ := cut_int (ns := ns) (some k) none
    obtain ⟨m2, e2, l2⟩ := cut_int (ns := ns) none (some k)
    refine ⟨.ref a, rfl, _, rfl, k, rfl, a, _, rfl, hx, fun p1 n1 => ?_⟩
    rw [e1]
    have s1 : Same H (upd H p1 (.lst (m1.map V.int))) := Same.new n1
    have g1 : (upd H p1 (.lst (m1.map V.int))) p1 = some (.lst (m1.map V.int)) := upd_same
    generalize upd H p1 (.lst (m1.map V.int)) = H1 at s1 g1 ⊢
    refine ⟨.ref a, rfl, _, rfl, k, rfl, a, _, rfl, s1.seq hx, fun p2 n2 => ?_⟩
    rw [e2]
    have s2 : Same H1 (upd H1 p2 (.lst (m2.map V.int))) := Same.new n2
    have g2 : (upd H1 p2 (.lst (m2.map V.int))) p2 = some (.lst (m2.map V.int)) := upd_same
    generalize upd H1 p2 (.lst (m2.map V.int)) = H2 at s2 g2 ⊢
    refine ⟨p1, p2, _, _, rfl, rfl, s2 _ _ g1, g2, ?_, fun p3 n3 => ?_⟩
    · rw [List.length_map, List.length_map]
      exact small (by omega)
    rw [← List.map_append]
    have s3 : Same H2 (upd H2 p3 (.lst ((m1 ++ m2).map V.int))) := Same.new n3
    have g3 : (upd H2 p3 (.lst ((m1 ++ m2).map V.int))) p3 = some (.lst ((m1 ++ m2).map V.int)) := upd_same
    have hl3 : (m1 ++ m2).length ≤ 126 := by
      rw [List.length_append]
      omega
    generalize m1 ++ m2 = cs at s3 g3 hl3 ⊢
    generalize upd H2 p3 (.lst (cs.map V.int)) = H3 at s3 g3 ⊢
    have sA : Same H H3 := (s1.trans s2).trans s3
    clear s1 s2 s3 g1 g2
    first | refine sigN [some (.ref a), some (.int (k)), some (V.ref p3), none, none, none, none] (by rfl) ?_ | refine sig [some (.ref a), some (.int (k)), some (V.ref p3), none, none, none, none] (by rfl) ?_
    refine ⟨.ref a, rfl, a, rfl, ⟨_, sA.seq hx⟩, fun D hD => ?_⟩
    refine lc_list (K := K) (a := a) (xs := ns.map V.int) (fun i H4 => Same H3 H4 ∧ ∃ gs : List Int, H4 D = some (.lst (gs.map V.int)) ∧ gs.length ≤ i) ⟨Same.new hD, [], upd_same, Nat.le_refl _⟩ (fun i H4 _ z => (sA.trans z.1).seq hx) (fun i x H4 hi z => ?_) (fun H4 z => ?_)
    · obtain ⟨s4, gs, g4, l4⟩ := z
      obtain ⟨y, rfl⟩ : ∃ y : Int, x = .int y := by
        rw [List.getElem?_map] at hi
        cases e : ns[i]? with
        | none =>
          rw [e] at hi
          cases hi
        | some y =>
          rw [e] at hi
          exact ⟨y, (Option.some.inj hi).symm⟩
      have hi2 : i < ns.length := by
        have h1 := (List.getElem?_eq_some_iff.mp hi).1
        rw [List.length_map] at h1
        exact h1
      refine ⟨rfl, _, rfl, _, _, rfl, rfl, ⟨by decide, by decide, by decide⟩, _, _, rfl, rfl, _, rfl, ite2 (fun _ => ?_) (fun _ => ?_)⟩
      · refine ⟨_, rfl, _, g4, ?_, Same.put s4 hD, gs ++ [y], ?_, ?_⟩
        · rw [List.length_map]
          exact small1000 (by omega)
        · rw [upd_same, List.map_append]
          rfl
        · rw [List.length_append]
          exact Nat.add_le_add_right l4 1
      · exact ⟨s4, gs, g4, Nat.le_succ_of_le l4⟩
    · obtain ⟨s4, gs, g4, l4⟩ := z
      have sB : Same H H4 := sA.trans s4
      have g3' := s4 _ _ g3
      refine ⟨_, rfl, _, _, rfl, rfl, (Or.inl ⟨by decide, by decide⟩), _, _, rfl, rfl, ?_⟩
      first | refine sigN [some (.ref a), some (.int (k)), some (V.ref p3), some (V.ref D), none, some (.int (61 + 9 * k)), none] (by rfl) ?_ | refine sig [some (.ref a), some (.int (k)), some (V.ref p3), some (V.ref D), none, some (.int (61 + 9 * k)), none] (by rfl) ?_
      refine ⟨_, rfl, p3, rfl, ⟨_, .inl (.inl g3')⟩, for_list (K := K) (a := p3) (xs := cs.map V.int) (fun i σ H5 => H5 = H4 ∧ ∃ (y : Int) (v : Option V), σ = [some (.ref a), some (.int k), some (.ref p3), some (.ref D), v, some (.int y), none]) ⟨rfl, _, none, rfl⟩ (fun i σ H5 _ z => by rw [z.1]; exact .inl (.inl g3')) ?_ ?_⟩
      · rintro i x σ H5 hi ⟨rfl, y, v, rfl⟩
        obtain ⟨t, rfl⟩ : ∃ t : Int, x = .int t := by
          rw [List.getElem?_map] at hi
          cases e : cs[i]? with
          | none =>
            rw [e] at hi
            cases hi
          | some t =>
            rw [e] at hi
            exact ⟨t, (Option.some.inj hi).symm⟩
        refine ⟨_, rfl, _, _, rfl, rfl, (Or.inr ⟨by decide, by decide⟩), _, rfl, _, _, rfl, rfl, _, rfl, _, _, rfl, rfl, (by show (0 : Int) < 2147483647; decide), ?_⟩
        exact ⟨rfl, _, _, rfl⟩
      · rintro σ H5 ⟨rfl, y, v, rfl⟩
        refine ⟨_, rfl, _, rfl, D, _, rfl, .inl (.inl (.inl g4)), _, _, rfl, rfl, _, rfl, ite2 (fun e => ?A) (fun e => ?B)⟩
        case' A =>
          have e' : k < ((gs.map V.int).length : Int) := of_decide_eq_true e
          rw [List.length_map] at e'
          have hk2 : k.toNat < gs.length := by omega
          have hz : atI (gs.map V.int) k = some (.int gs[k.toNat]) := by
            have key : atI (gs.map V.int) ((k.toNat : Nat) : Int) = some (.int gs[k.toNat]) := atI_nat (by
              rw [List.getElem?_map, List.getElem?_eq_getElem hk2]
              rfl)
            rw [show ((k.toNat : Nat) : Int) = k by omega] at key
            exact key
          refine ⟨_, rfl, _, rfl, D, _, _, _, rfl, rfl, .inl (.inl g4), hz, ?_⟩
        all_goals
          intro m nm
          have h3m : p3 ≠ m := ne_of_none g3' nm
          refine ⟨_, rfl, _, rfl, _, rfl, _, rfl, _, _, rfl, rfl, (Or.inl ⟨by decide, by decide⟩), _, _, rfl, rfl, (by show 1 ≤ sizeLine; decide), fun l nl => ?_⟩
          have nml : m ≠ l := ne_of_none upd_same nl
          have nl0 : H5 l = none := Same.free (Same.new nm) nl
          refine ⟨p3, l, cs.map V.int, [V.int (47 * k + 19)], rfl, rfl, ?_, upd_same, ?_, fun u nu => ?_⟩
          · rw [upd_ne (ne_of_none g3' nl0), upd_ne h3m]
            exact g3'
          · rw [List.length_map]
            exact small (by show cs.length + 1 ≤ 1000; omega)
          have nmu : m ≠ u := ne_of_none (by rw [upd_ne nml]; exact upd_same) nu
          have nu0 : H5 u = none := Same.free (Same.put (Same.new nm) nl0) nu
          refine ⟨?_, mk4 _ y u 0, rfl, (by show 4 ≤ 15; decide), ?_⟩
          · rw [upd_ne nmu, upd_ne nml]
            exact upd_same
          rw [m4_merge]
          have hm0 : H m = none := Same.free sB nm
          have hl0 : H l = none := Same.free sB nl0
          have hu0 : H u = none := Same.free sB nu0
          refine q _ m u (Same.put (Same.put (Same.put (Same.put sB hm0) hl0) hu0) hm0) hm0 hu0 ⟨_, y, cs ++ [47 * k + 19], 0, upd_same, Nat.le_refl _, ?_, ?_⟩
          · rw [upd_ne (fun z => nmu z.symm), upd_same, List.map_append]
            rfl
          · rw [List.length_append]
            exact Nat.lt_of_lt_of_le (by decide : 0 < 1) (Nat.le_add_left _ _)
end
end K50
set_option Elab.async false
set_option linter.all false
set_option maxRecDepth 100000
set_option maxHeartbeats 4000000
namespace K50
open PySem PySem.Spec PyProof.Rows L2 Gd QM SvM K45M PaM
open K51M (Lt sq_nn strict uniq)
open K50M (fL rest r1 r0 slope last runge limit_ok reach_ok root_one six)
theorem nd_of {ps : List (Int × Int)} (h : ps.Pairwise Lt) : ps.Nodup := by
  refine List.Pairwise.imp (fun {p r} z e => ?_) h
  subst e
  exact K51M.Lt.irr z
/-- a drawn quartic -/
structure S4 (a b c d : Int) : Prop where
  ha : a.natAbs ≤ 11
  hb : b.natAbs ≤ 50
  hc : c.natAbs ≤ 140
  hd : d.natAbs ≤ 700
theorem S4.rest {a b c d : Int} (h : S4 a b c d) : (K50M.rest a b).natAbs ≤ 321 := by
  have h1 : (a * a).natAbs ≤ 11 * 11 := by
    rw [Int.natAbs_mul]
    exact Nat.mul_le_mul h.ha h.ha
  have := h.hb
  unfold K50M.rest
  omega
theorem S4.r1 {a b c d : Int} (h : S4 a b c d) : (K50M.r1 a b c).natAbs ≤ 40000 := by
  have h1 : (8 * a * K50M.rest a b).natAbs ≤ 88 * 321 := by
    rw [Int.natAbs_mul]
    have := h.ha
    exact Nat.mul_le_mul (by omega) h.rest
  have := h.hc
  unfold K50M.r1
  omega
theorem S4.r0 {a b c d : Int} (h : S4 a b c d) : (K50M.r0 a b d).natAbs ≤ 150000 := by
  have h1 : (K50M.rest a b * K50M.rest a b).natAbs ≤ 321 * 321 := by
    rw [Int.natAbs_mul]
    exact Nat.mul_le_mul h.rest h.rest
  have := h.hd
  unfold K50M.r0
  omega
/-- the answer's data -/
structure Good (a b c d : Int) (D : PyData) : Prop where
  sq : r1 a b c = 0 → r0 a b d = 0 → D = .tuple [.str "square", .tuple [.int 8, .int (4 * a), .int (rest a b)]]
  al : ¬ (r1 a b c = 0 ∧ r0 a b d = 0) → ∃ ps, D = .tuple [.str "all", .tuple (dps ps)] ∧ ps.Pairwise Lt ∧ ∀ u v : Int, (u, v) ∈ ps ↔ v * v = ev (fL a b c d) u
theorem Good.one {a b c d : Int} {D E : PyData} (h : Good a b c d D) (k : Good a b c d E) : D = E := by
  by_cases z : r1 a b c = 0 ∧ r0 a b d = 0
  · rw [h.sq z.1 z.2, k.sq z.1 z.2]
  · obtain ⟨ps, e1, o1, m1⟩ := h.al z
    obtain ⟨qs, e2, o2, m2⟩ := k.al z
    rw [e1, e2, uniq o1 o2 fun p => (m1 p.1 p.2).trans (m2 p.1 p.2).symm]
section
variable {P : Program} {w : World} {K : PySem.W.Frag} {mg : Str → Option Value} {base : Heap}
def sp_look_limit (K : PySem.W.Frag) : Sp := fun vs H Q _ => ∃ a rs q1 q0 : Int, vs = [.int a, .int rs, .int q1, .int q0] ∧ a.natAbs ≤ 11 ∧ rs.natAbs ≤ 321 ∧ q1.natAbs ≤ 40000 ∧ q0.natAbs ≤ 150000 ∧
  ∀ l : Nat, l ≤ 2600 → (∀ x : Int, 0 ≤ x → 16 * (x * x) ≤ (8 * (a.natAbs : Int) + (q1.natAbs : Int)) * x + (2 * (rs.natAbs : Int) + 1 + (q0.natAbs : Int)) → x < l) → Q (.int (l : Int)) H
abbrev s_look_limit : Stmt := topS 17
theorem sc_look_limit : FnScope ["a", "rest", "r1", "r0", "slope", "last"] ["a", "rest", "r1", "r0"] (defScope s_look_limit) := ⟨rfl, rfl, rfl, by decide +kernel, rfl, by decide +kernel, by decide +kernel⟩
theorem k_look_limit (T : Tx K mg) (D : Df K mg "look_limit" s_look_limit ["a", "rest", "r1", "r0"]) (c_root : Kl P w K mg base 1 "root" (sp_root K)) : Kl P w K mg base 2 "look_limit" (sp_look_limit K) := by
  have nd := sc_look_limit.nd
  refine Kl.by_body D sc_look_limit (fun vs H Q E h => ?_) (fun f cdv A outer s H vs Q E hr h => ?_)
  · obtain ⟨_, _, _, _, rfl, _⟩ := h
    rfl
  · obtain ⟨a, rs, q1, q0, rfl, hA, hR, h1, h0, q⟩ := h
    have hu1 := hu_of hr
    refine ⟨_, (pss_cons (ps_set (i := 4) nd rfl (by first | exact Or.inl rfl | exact Or.inr rfl) (pe_op op_add (pe_op op_mul pe_int (pe_callB call_abs (by rfl) T.abs (by decide +kernel) (pa_cons (pv 0) pa_nil))) (pe_callB call_abs (by rfl) T.abs (by decide +kernel) (pa_cons (pv 2) pa_nil))))
      (pss_cons (ps_set (i := 5) nd rfl (by first | exact Or.inl rfl | exact Or.inr rfl) (pe_op op_add (pe_op op_add (pe_op op_mul pe_int (pe_callB call_abs (by rfl) T.abs (by decide +kernel) (pa_cons (pv 1) pa_nil))) pe_int) (pe_callB call_abs (by rfl) T.abs (by decide +kernel) (pa_cons (pv 3) pa_nil))))
      (pss_one (ps_ret (pe_op op_add (pe_op op_fdiv (pe_op op_add (pv 4) (pe_k c_root  hr (by decide) (by rfl) (pa_cons (pe_op op_add (pe_op op_mulW (pv 4) (pv 4)) (pe_op op_mul pe_int (pv 5))) pa_nil))) pe_int) pe_int))))), ?_⟩
    refine ⟨_, rfl, _, rfl, ?_⟩
    rw [abs_nat]
    refine ⟨_, _, rfl, rfl, (Or.inl ⟨by decide, by decide⟩), _, rfl, _, rfl, ?_⟩
    rw [abs_nat]
    refine ⟨_, _, rfl, rfl, ?_⟩
    obtain ⟨s, hs⟩ : ∃ s : Nat, 8 * a.natAbs + q1.natAbs = s := ⟨_, rfl⟩
    have es : 8 * (a.natAbs : Int) + (q1.natAbs : Int) = (s : Int) := by omega
    first | refine sigN [some (.int a), some (.int rs), some (.int q1), some (.int q0), some (.int (s : Int)), none] (by rw [← es]; rfl) ?_ | refine sig [some (.int a), some (.int rs), some (.int q1), some (.int q0), some (.int (s : Int)), none] (by rw [← es]; rfl) ?_
    refine ⟨_, rfl, _, rfl, ?_⟩
    rw [abs_nat]
    refine ⟨_, _, rfl, rfl, (Or.inl ⟨by decide, by decide⟩), _, _, rfl, rfl, _, rfl, _, rfl, ?_⟩
    rw [abs_nat]
    refine ⟨_, _, rfl, rfl, ?_⟩
    obtain ⟨l, hl⟩ : ∃ l : Nat, 2 * rs.natAbs + 1 + q0.natAbs = l := ⟨_, rfl⟩
    have el : 2 * (rs.natAbs : Int) + 1 + (q0.natAbs : Int) = (l : Int) := by omega
    first | refine sigN [some (.int a), some (.int rs), some (.int q1), some (.int q0), some (.int (s : Int)), some (.int (l : Int))] (by rw [← el]; rfl) ?_ | refine sig [some (.int a), some (.int rs), some (.int q1), some (.int q0), some (.int (s : Int)), some (.int (l : Int))] (by rw [← el]; rfl) ?_
    rw [es, el] at q
    have s4 : s ≤ 40088 := by omega
    have l2 : l ≤ 150643 := by omega
    have sB : B 20 (s : Int) := by
      unfold Gd.B
      omega
    have ssB := sB.mul sB
    refine ⟨_, rfl, _, rfl, _, rfl, _, _, rfl, rfl, sB.mulW sB (by decide), _, rfl, _, _, rfl, rfl, (Or.inl ⟨by decide, by decide⟩), _, _, rfl, rfl, ?_⟩
    have nn : (0 : Int) ≤ (s : Int) * s + 64 * l := by
      have := sq_nn (s : Int)
      omega
    have mm : (s : Int) * s ≤ 40088 * 40088 := Int.mul_le_mul (by omega) (by omega) (by omega) (by omega)
    refine ⟨_, rfl, nn, B.up (m := 42) (by unfold Gd.B; omega) (by decide), fun r r0 r1 r2 => ?_⟩
    have r4 : r ≤ 41000 := Int.not_lt.mp fun z => by
      have := Int.mul_le_mul (show (41001 : Int) ≤ r by omega) (show (41001 : Int) ≤ r by omega) (by omega) (by omega)
      omega
    refine ⟨_, _, rfl, rfl, _, _, rfl, rfl, ⟨by decide, by decide⟩, _, _, rfl, rfl, ?_⟩
    have hq0 : 0 ≤ ((s : Int) + r) / 32 := by omega
    have := q ((((s : Int) + r) / 32).toNat + 1) (by omega) (fun x x0 hx => by
      have := limit_ok (s := (s : Int)) (l := (l : Int)) (r := r) (by omega) x0 hx r2
      omega)
    rw [show (((((s : Int) + r) / 32).toNat + 1 : Nat) : Int) = ((s : Int) + r) / 32 + 1 by omega] at this
    exact this
def sp_quartic_points (K : PySem.W.Frag) : Sp := fun vs H Q _ => ∃ a b c d : Int, vs = [.int a, .int b, .int c, .int d] ∧ S4 a b c d ∧ ∀ H' t D, Same H H' → Dp K H' (.ref t) D → Good a b c d D → okk 64 D = true → D.depth ≤ 10 → wtk 64 D ≤ 3000000 → Q (.ref t) H'
abbrev s_quartic_points : Stmt := topS 18
theorem sc_quartic_points : FnScope ["a", "b", "c", "d", "rest", "r1", "r0", "f", "limit", "found"] ["a", "b", "c", "d"] (defScope s_quartic_points) := ⟨rfl, rfl, rfl, by decide +kernel, rfl, by decide +kernel, by decide +kernel⟩
theorem k_quartic_points (T : Tx K mg) (D : Df K mg "quartic_points" s_quartic_points ["a", "b", "c", "d"]) (c_look_limit : Kl P w K mg base 2 "look_limit" (sp_look_limit K)) (c_square_places : Kl P w K mg base 3 "square_places" (sp_square_places K)) (c_points_at_whole : Kl P w K mg base 2 "points_at_whole" (sp_points_at_whole K)) : Kl P w K mg base 4 "quartic_points" (sp_quartic_points K) := by
  have nd := sc_quartic_points.nd
  refine Kl.by_body D sc_quartic_points (fun vs H Q E h => ?_) (fun f cdv A outer s H vs Q E hr h => ?_)
  · obtain ⟨_, _, _, _, rfl, _⟩ := h
    rfl
  · obtain ⟨a, b, c, d, rfl, h4, q⟩ := h
    have hu1 := hu_of hr
    refine ⟨_, (pss_cons (ps_set (i := 4) nd rfl (by first | exact Or.inl rfl | exact Or.inr rfl) (pe_op op_sub (pe_op op_mul pe_int (pv 1)) (pe_op op_mulW (pv 0) (pv 0))))
      (pss_cons (ps_set (i := 5) nd rfl (by first | exact Or.inl rfl | exact Or.inr rfl) (pe_op op_sub (pe_op op_mul pe_int (pv 2)) (pe_op op_mulW (pe_op op_mul pe_int (pv 0)) (pv 4))))
      (pss_cons (ps_set (i := 6) nd rfl (by first | exact Or.inl rfl | exact Or.inr rfl) (pe_op op_sub (pe_op op_mul pe_int (pv 3)) (pe_op op_mulW (pv 4) (pv 4))))
      (C8.pss_cut (ps_if (PW.pt (pw_and (pt_cmpR op_eq (pv 5) pe_int (nomark _)) (pw_and1 (pt_cmpR op_eq (pv 6) pe_int (nomark _))))) (pss_one (ps_ret (pe_tup (pa_cons pe_str (pa_cons (pe_tup (pa_cons pe_int (pa_cons (pe_op op_mul pe_int (pv 0)) (pa_cons (pv 4) pa_nil)))) pa_nil))))) pss_nil)
      (pss_cons (ps_set (i := 7) nd rfl (by first | exact Or.inl rfl | exact Or.inr rfl) (pe_tup (pa_cons (pv 3) (pa_cons (pv 2) (pa_cons (pv 1) (pa_cons (pv 0) (pa_cons pe_int pa_nil)))))))
      (pss_cons (ps_set (i := 8) nd rfl (by first | exact Or.inl rfl | exact Or.inr rfl) (pe_k c_look_limit  hr (by decide) (by rfl) (pa_cons (pv 0) (pa_cons (pv 4) (pa_cons (pv 5) (pa_cons (pv 6) pa_nil))))))
      (pss_cons (ps_set (i := 9) nd rfl (by first | exact Or.inl rfl | exact Or.inr rfl) (pe_callTy call_list_of (by rfl) T.list (by decide +kernel) (pa_cons (pe_k c_square_places  hr (by decide) (by rfl) (pa_cons (pv 7) (pa_cons (pv 8) pa_nil))) pa_nil)))
      (C8.pss_cut (ps_if (PW.pt (pw_and (pt_cmpR op_ne (pv 5) pe_int (nomark _)) (pw_and (pt_cmpR op_eq (pe_op op_modN (pv 6) (pv 5)) pe_int (nomark _)) (pw_and1 (pt_cmpR op_gt (pe_callB call_abs (by rfl) T.abs (by decide +kernel) (pa_cons (pe_op op_fdivN (pv 6) (pv 5)) pa_nil)) (pv 8) (nomark _)))))) (pss_one (ps_expr (pe_bm PySem.F.plainAttrs_list PySem.F.slot_list_extend PySem.F.type_list_extend mt_extend (pv 9) (pa_cons (pe_k c_points_at_whole  hr (by decide) (by rfl) (pa_cons (pv 7) (pa_cons (pe_op op_fdivN (pe_un un_neg (pv 6)) (pv 5)) pa_nil))) pa_nil)))) pss_nil)
      (pss_one (ps_ret (pe_tup (pa_cons pe_str (pa_cons (pe_callTy call_tuple_of (by rfl) T.tuple (by decide +kernel) (pa_cons (pe_callB (cr_sortedPO) (by rfl) T.sorted (by decide +kernel) (pa_cons (pv 9) pa_nil)) pa_nil)) pa_nil))))))))))))), ?_⟩
    have aB : B 4 a := by
      have := h4.ha
      unfold Gd.B
      omega
    have bB : B 6 b := by
      have := h4.hb
      unfold Gd.B
      omega
    have cB : B 8 c := by
      have := h4.hc
      unfold Gd.B
      omega
    have dB : B 10 d := by
      have := h4.hd
      unfold Gd.B
      omega
    have hR := h4.rest
    have h1 := h4.r1
    have h0 := h4.r0
    have rB : B 9 (rest a b) := by
      unfold Gd.B
      omega
    refine ⟨_, rfl, _, _, rfl, rfl, (Or.inl ⟨by decide, by decide⟩), _, rfl, _, rfl, _, _, rfl, rfl, aB.mulW aB (by decide), _, _, rfl, rfl, ?_⟩
    first | refine sigN [some (.int (a)), some (.int (b)), some (.int (c)), some (.int (d)), some (.int (rest a b)), none, none, none, none, none] (by rfl) ?_ | refine sig [some (.int (a)), some (.int (b)), some (.int (c)), some (.int (d)), some (.int (rest a b)), none, none, none, none, none] (by rfl) ?_
    refine ⟨_, rfl, _, _, rfl, rfl, (Or.inl ⟨by decide, by decide⟩), _, rfl, _, _, rfl, rfl, (Or.inl ⟨by decide, by decide⟩), _, rfl, _, _, rfl, rfl, ((B.lit (n := 4) (by decide)).mul aB).mulW rB (by decide), _, _, rfl, rfl, ?_⟩
    first | refine sigN [some (.int (a)), some (.int (b)), some (.int (c)), some (.int (d)), some (.int (rest a b)), some (.int (r1 a b c)), none, none, none, none] (by rfl) ?_ | refine sig [some (.int (a)), some (.int (b)), some (.int (c)), some (.int (d)), some (.int (rest a b)), some (.int (r1 a b c)), none, none, none, none] (by rfl) ?_
    refine ⟨_, rfl, _, _, rfl, rfl, (Or.inl ⟨by decide, by decide⟩), _, rfl, _, rfl, _, _, rfl, rfl, rB.mulW rB (by decide), _, _, rfl, rfl, ?_⟩
    first | refine sigN [some (.int (a)), some (.int (b)), some (.int (c)), some (.int (d)), some (.int (rest a b)), some (.int (r1 a b c)), some (.int (r0 a b d)), none, none, none] (by rfl) ?_ | refine sig [some (.int (a)), some (.int (b)), some (.int (c)), some (.int (d)), some (.int (rest a b)), some (.int (r1 a b c)), some (.int (r0 a b d)), none, none, none] (by rfl) ?_
    have tail : ¬ (r1 a b c = 0 ∧ r0 a b d = 0) → ∀ (H' : Hp) (t p : Addr) (ts : List V) (ps : List (Int × Int)), Same H H' → H' t = some (.tup [.str "all", .ref p]) → H' p = some (.tup ts) → PA H' ts ps → ps.Pairwise Lt → (∀ u v : Int, (u, v) ∈ ps ↔ v * v = ev (fL a b c d) u) → ps.length ≤ 10500 → (∀ p ∈ ps, p.1.natAbs ≤ 200000) → Q (.ref t) H' := by
      intro nz H' t p ts ps s gt gp pa ho hm hlen hx
      have small : ∀ p ∈ ps, B 64 p.1 ∧ B 64 p.2 := by
        rintro ⟨u, v⟩ hp
        have hu := hx _ hp
        have hu : u.natAbs ≤ 200000 := hu
        have h2 := (hm u v).mp hp
        have uB : B 18 u := by
          unfold Gd.B
          omega
        refine ⟨uB.up (by decide), ?_⟩
        have e : B 78 (ev (fL a b c d) u) := by
          rw [K50M.evL]
          have u2 := uB.mul uB
          have u3 := u2.mul uB
          have u4 := u3.mul uB
          have t1 := ((aB.mul uB).mul uB).mul uB
          have t2 := (bB.mul uB).mul uB
          have t3 := cB.mul uB
          exact ((((u4.add t1).add t2).add t3).add dB).up (by decide)
        have h3 : (v.natAbs : Int) * v.natAbs = ev (fL a b c d) u := by rw [Int.natAbs_mul_self' v]; exact h2
        unfold Gd.B at e ⊢
        refine Nat.lt_of_not_le fun z => ?_
        generalize v.natAbs = w at h3 z
        generalize ev (fL a b c d) u = n at h3 e
        have h5 := Nat.mul_le_mul z z
        have h6 : ((w * w : Nat) : Int) = n := by push_cast; exact h3
        have e5 : (2 : Nat) ^ 64 * 2 ^ 64 = 2 ^ 128 := by decide
        rw [e5] at h5
        omega
      refine q H' t (.tuple [.str "all", .tuple (dps ps)]) s (.tup (tup_of gt) (.cons (.str _) (.cons (.tup (tup_of gp) pa.dp) .nil))) ⟨fun a b => (nz ⟨a, b⟩).elim, fun _ => ⟨ps, rfl, ho, hm⟩⟩ ?_ ?_ ?_
      · simp only [okk, okkAll, dps_okk (by decide) small, Bool.and_true]
        decide +kernel
      · have := dps_depth ps
        simp only [PyData.depth, PyData.depthAll]
        omega
      · simp only [wtk, wtkAll]
        rw [dps_wtk]
        have e : 10 * Str.length "all" + 2 ≤ 100 := by decide +kernel
        have := Nat.mul_le_mul_left (2 * (64 + 3) + 5) hlen
        omega
    have square : r1 a b c = 0 → r0 a b d = 0 → ∀ (H' : Hp) (t p : Addr), Same H H' → H' t = some (.tup [.str "square", .ref p]) → H' p = some (.tup [.int 8, .int (4 * a), .int (rest a b)]) → Q (.ref t) H' := by
      intro z1 z0 H' t p s gt gp
      refine q H' t (.tuple [.str "square", .tuple [.int 8, .int (4 * a), .int (rest a b)]]) s (.tup (tup_of gt) (.cons (.str _) (.cons (.tup (tup_of gp) (.cons (.int _) (.cons (.int _) (.cons (.int _) .nil)))) .nil))) ⟨fun _ _ => rfl, fun nz => (nz ⟨z1, z0⟩).elim⟩ ?_ ?_ ?_
      · have e1 : (8 : Int).natAbs.log2 < 64 := by decide
        have e2 : (4 * a).natAbs.log2 < 64 := log_k (by have := h4.ha; omega) (by decide)
        have e3 : (rest a b).natAbs.log2 < 64 := log_k (by omega) (by decide)
        simp only [okk, okkAll, Bool.and_true, e1, e2, e3, decide_true]
        decide +kernel
      · simp [PyData.depth, PyData.depthAll]
      · simp only [wtk, wtkAll]
        decide +kernel
    clear q
    obtain ⟨rs, hrs⟩ : ∃ rs, rest a b = rs := ⟨_, rfl⟩
    obtain ⟨q1, hq1⟩ : ∃ q1, r1 a b c = q1 := ⟨_, rfl⟩
    obtain ⟨q0, hq0⟩ : ∃ q0, r0 a b d = q0 := ⟨_, rfl⟩
    have runge' : ∀ {x y : Int}, y * y = ev (fL a b c d) x → q1 * x + q0 = 0 ∨ 16 * ((x.natAbs : Int) * x.natAbs) ≤ (8 * (a.natAbs : Int) + (q1.natAbs : Int)) * x.natAbs + (2 * (rs.natAbs : Int) + 1 + (q0.natAbs : Int)) := by
      intro x y h
      have := runge h
      unfold slope last at this
      rw [hrs, hq1, hq0] at this
      exact this
    rw [hrs] at hR rB square ⊢
    rw [hq1] at h1 tail square ⊢
    rw [hq0] at h0 tail square ⊢
    refine ⟨fun σ' H' => H' = H ∧ σ' = [some (.int a), some (.int b), some (.int c), some (.int d), some (.int rs), some (.int q1), some (.int q0), none, none, none] ∧ ¬ (q1 = 0 ∧ q0 = 0), ?_, ?_⟩
    · refine ⟨_, rfl, rfl, _, rfl, ?_⟩
      rw [dec_int]
      by_cases z1 : q1 = 0
      · refine iteY (by simpa using z1) ?_
        refine ⟨_, rfl, rfl, _, rfl, ?_⟩
        rw [dec_int]
        by_cases z0 : q0 = 0
        · refine iteY (by simpa using z0) ?_
          refine ⟨_, rfl, _, _, rfl, rfl, (Or.inl ⟨by decide, by decide⟩), _, rfl, (by show 3 ≤ sizeLine; decide), fun p np => ?_⟩
          have s1 := Same.new (H := H) (p := p) (o := .tup [.int 8, .int (4 * a), .int rs]) np
          have gp : upd H p (.tup [.int 8, .int (4 * a), .int rs]) p = some (.tup [.int 8, .int (4 * a), .int rs]) := upd_same
          generalize upd H p (.tup [.int 8, .int (4 * a), .int rs]) = H1 at s1 gp ⊢
          refine ⟨(by show 2 ≤ sizeLine; decide), fun t nt => ?_⟩
          have s2 := Same.new (o := .tup [.str "square", .ref p]) nt
          exact square z1 z0 _ t p (s1.trans s2) upd_same (s2 _ _ gp)
        · refine iteN (by simpa using z0) ?_
          exact ⟨rfl, rfl, fun z => z0 z.2⟩
      · refine iteN (by simpa using z1) ?_
        exact ⟨rfl, rfl, fun z => z1 z.1⟩
    rintro σ' H' ⟨rfl, rfl, nz⟩
    replace tail := tail nz
    clear square
    refine ⟨_, rfl, _, rfl, _, rfl, _, rfl, (by show 5 ≤ sizeLine; decide), fun f nf => ?_⟩
    have s1 := Same.new (H := H') (p := f) (o := .tup [.int d, .int c, .int b, .int a, .int 1]) nf
    have gf : upd H' f (.tup [.int d, .int c, .int b, .int a, .int 1]) f = some (.tup [.int d, .int c, .int b, .int a, .int 1]) := upd_same
    generalize upd H' f (.tup [.int d, .int c, .int b, .int a, .int 1]) = H1 at s1 gf ⊢
    first | refine sigN [some (.int (a)), some (.int (b)), some (.int (c)), some (.int (d)), some (.int (rs)), some (.int (q1)), some (.int (q0)), some (.ref f), none, none] (by rfl) ?_ | refine sig [some (.int (a)), some (.int (b)), some (.int (c)), some (.int (d)), some (.int (rs)), some (.int (q1)), some (.int (q0)), some (.ref f), none, none] (by rfl) ?_
    refine ⟨_, rfl, _, rfl, _, rfl, _, rfl, a, rs, q1, q0, rfl, h4.ha, hR, h1, h0, fun l l2 hl => ?_⟩
    first | refine sigN [some (.int (a)), some (.int (b)), some (.int (c)), some (.int (d)), some (.int (rs)), some (.int (q1)), some (.int (q0)), some (.ref f), some (.int ((l : Int))), none] (by rfl) ?_ | refine sig [some (.int (a)), some (.int (b)), some (.int (c)), some (.int (d)), some (.int (rs)), some (.int (q1)), some (.int (q0)), some (.ref f), some (.int ((l : Int))), none] (by rfl) ?_
    have fB : ∀ x ∈ fL a b c d, B 60 x := by
      intro x hx
      simp only [fL, List.mem_cons, List.not_mem_nil, or_false] at hx
      rcases hx with rfl | rfl | rfl | rfl | rfl
      · exact dB.up (by decide)
      · exact cB.up (by decide)
      · exact bB.up (by decide)
      · exact aB.up (by decide)
      · exact B.lit (by decide)
    refine ⟨_, rfl, _, rfl, f, fL a b c d, l, rfl, tup_of gf, (by show 5 ≤ 5; decide), fB, by omega, fun H2 t2 ts ps s2 gt2 pa ho hm hlen => ?_⟩
    refine ⟨t2, ts, rfl, .inr (tup_of gt2), fun D nD => ?_⟩
    have s3 := Same.new (H := H2) (p := D) (o := .lst ts) nD
    have gD : upd H2 D (.lst ts) D = some (.lst ts) := upd_same
    generalize upd H2 D (.lst ts) = H3 at s3 gD ⊢
    first | refine sigN [some (.int (a)), some (.int (b)), some (.int (c)), some (.int (d)), some (.int (rs)), some (.int (q1)), some (.int (q0)), some (.ref f), some (.int ((l : Int))), some (.ref D)] (by rfl) ?_ | refine sig [some (.int (a)), some (.int (b)), some (.int (c)), some (.int (d)), some (.int (rs)), some (.int (q1)), some (.int (q0)), some (.ref f), some (.int ((l : Int))), some (.ref D)] (by rfl) ?_
    have gf3 := (s2.trans s3) _ _ gf
    have pa3 := pa.same s3
    have nd0 : ps.Nodup := nd_of ho
    have sA : Same H' H2 := s1.trans s2
    refine ⟨fun σ' H4 => σ' = [some (.int a), some (.int b), some (.int c), some (.int d), some (.int rs), some (.int q1), some (.int q0), some (.ref f), some (.int (l : Int)), some (.ref D)] ∧ But D H3 H4 ∧ ∃ ts ps, H4 D = some (.lst ts) ∧ PA H4 ts ps ∧ ps.Nodup ∧ (∀ u v : Int, (u, v) ∈ ps ↔ v * v = ev (fL a b c d) u) ∧ ps.length ≤ 10500 ∧ ∀ p ∈ ps, p.1.natAbs ≤ 200000, ?_, ?_⟩
    · have inside : ∀ {u v : Int}, v * v = ev (fL a b c d) u → ¬ (-(l : Int) ≤ u ∧ u ≤ l) → q1 ≠ 0 ∧ q1 ∣ q0 ∧ u = -q0 / q1 := by
        intro u v h hn
        rcases runge' h with z | z
        · have q1n : q1 ≠ 0 := by
            rintro rfl
            exact nz ⟨rfl, by omega⟩
          exact ⟨q1n, root_one q1n z⟩
        · have := hl u.natAbs (by omega) z
          omega
      have fin0 : (∀ u v : Int, v * v = ev (fL a b c d) u → -(l : Int) ≤ u ∧ u ≤ l) → [some (V.int a), some (.int b), some (.int c), some (.int d), some (.int rs), some (.int q1), some (.int q0), some (.ref f), some (.int (l : Int)), some (.ref D)] = [some (V.int a), some (.int b), some (.int c), some (.int d), some (.int rs), some (.int q1), some (.int q0), some (.ref f), some (.int (l : Int)), some (.ref D)] ∧ But D H3 H3 ∧ ∃ ts ps, H3 D = some (.lst ts) ∧ PA H3 ts ps ∧ ps.Nodup ∧ (∀ u v : Int, (u, v) ∈ ps ↔ v * v = ev (fL a b c d) u) ∧ ps.length ≤ 10500 ∧ ∀ p ∈ ps, p.1.natAbs ≤ 200000 := by
        intro hin
        refine ⟨rfl, But.refl _ _, ts, ps, gD, pa3, nd0, fun u v => (hm u v).trans ⟨fun z => z.2, fun z => ⟨hin u v z, z⟩⟩, by omega, ?_⟩
        rintro ⟨u, v⟩ hp
        have := ((hm u v).mp hp).1
        show u.natAbs ≤ 200000
        omega
      refine ⟨_, rfl, rfl, _, rfl, ?_⟩
      rw [dec_int]
      by_cases z1 : q1 = 0
      · refine iteN (by simpa using z1) ?_
        exact fin0 fun u v h => by
          by_cases hn : -(l : Int) ≤ u ∧ u ≤ l
          · exact hn
          · exact ((inside h hn).1 z1).elim
      refine iteY (by simpa using z1) ?_
      refine ⟨_, rfl, _, rfl, _, _, rfl, rfl, z1, rfl, _, rfl, ?_⟩
      rw [dec_int]
      by_cases hd : q1 ∣ q0
      · refine iteY (beq_iff_eq.mpr (Int.fmod_eq_zero_of_dvd hd)) ?_
        refine ⟨_, rfl, _, rfl, _, _, rfl, rfl, ⟨z1, by omega⟩, _, rfl, ?_⟩
        rw [abs_nat, Int.fdiv_eq_ediv_of_dvd hd]
        have en : -q0 / q1 = -(q0 / q1) := Int.neg_ediv_of_dvd hd
        have xa : (q0 / q1).natAbs ≤ q0.natAbs := by
          have e := congrArg Int.natAbs (Int.mul_ediv_cancel' hd)
          rw [Int.natAbs_mul] at e
          have := Nat.mul_le_mul_right (q0 / q1).natAbs (show 1 ≤ q1.natAbs by omega)
          omega
        refine ⟨_, rfl, _, _, rfl, rfl, _, rfl, ?_⟩
        by_cases hgt : (l : Int) < ((q0 / q1).natAbs : Int)
        · refine iteY (decide_eq_true hgt) ?_
          have hd' : q1 ∣ -q0 := Int.dvd_neg.mpr hd
          refine ⟨_, rfl, .inl ⟨rfl, _, lst_of gD⟩, _, rfl, _, rfl, _, rfl, _, rfl, _, _, rfl, rfl, ⟨z1, by omega⟩, ?_⟩
          obtain ⟨x0, hx0⟩ : ∃ x0, -q0 / q1 = x0 := ⟨_, rfl⟩
          have x0a : x0.natAbs ≤ 150000 := by omega
          refine ⟨f, fL a b c d, x0, by rw [← hx0, ← Int.fdiv_eq_ediv_of_dvd hd'], tup_of gf3, (by show 5 ≤ 5; decide), fB, B.up (m := 18) (by unfold Gd.B; omega) (by decide), fun H4 l4 ws qs s4 g4 paq atq => ?_⟩
          have gD4 := s4 _ _ gD
          have wl : ws.length ≤ 2 := by
            rw [paq.len]
            exact atq.len
          refine ⟨D, l4, ts, ws, rfl, rfl, gD4, g4, Nat.le_trans (show ts.length + ws.length ≤ 100000 by rw [pa.len]; omega) (by decide), ?_⟩
          refine ⟨rfl, (But.of s4).trans But.upd, _, ps ++ qs, upd_same, PA.put gD4 ((pa3.same s4).app paq), ?_, ?_, ?_, ?_⟩
          · refine List.nodup_append.mpr ⟨nd0, nd_of atq.ord, ?_⟩
            rintro ⟨u, v⟩ h5 w6 h6 rfl
            have a1 := ((hm u v).mp h5).1
            have a2 := ((atq.mem u v).mp h6).1
            omega
          · intro u v
            rw [List.mem_append, hm, atq.mem]
            constructor
            · rintro (⟨-, z⟩ | ⟨rfl, z⟩)
              · exact z
              · exact z
            · intro z
              by_cases hn : -(l : Int) ≤ u ∧ u ≤ l
              · exact Or.inl ⟨hn, z⟩
              · obtain ⟨-, -, e⟩ := inside z hn
                rw [hx0] at e
                subst e
                exact Or.inr ⟨rfl, z⟩
          · rw [List.length_append]
            have := atq.len
            omega
          · rintro ⟨u, v⟩ hp
            show u.natAbs ≤ 200000
            rcases List.mem_append.mp hp with z | z
            · have := ((hm u v).mp z).1
              omega
            · have := ((atq.mem u v).mp z).1
              omega
        · refine iteN (by simpa using hgt) ?_
          exact fin0 fun u v h => by
            by_cases hn : -(l : Int) ≤ u ∧ u ≤ l
            · exact hn
            · obtain ⟨-, -, e⟩ := inside h hn
              omega
      · refine iteN (fun z => hd (Int.dvd_of_fmod_eq_zero (beq_iff_eq.mp z))) ?_
        exact fin0 fun u v h => by
          by_cases hn : -(l : Int) ≤ u ∧ u ≤ l
          · exact hn
          · exact (hd (inside h hn).2.1).elim
    rintro σ' H4 ⟨rfl, b4, ts, ps, g4, pa4, nd4, hm4, hlen4, hx4⟩
    refine ⟨_, rfl, D, ts, PaM.key H4, rfl, lst_of g4, pa4.all, fun ys e h1 h2 ne => ⟨e, ys, rfl, .inl ⟨lst_of upd_same, fun p np => ?_⟩⟩⟩
    obtain ⟨qs, hq, hoq, hlq, hmq⟩ := pa4.sorted nd4 h1 h2
    have s5 : Same H4 (upd (upd H4 e (.lst ys)) p (.tup ys)) := (Same.new ne).trans (Same.new np)
    have g6 : (upd (upd H4 e (.lst ys)) p (.tup ys)) p = some (.tup ys) := upd_same
    generalize upd (upd H4 e (.lst ys)) p (.tup ys) = H6 at s5 g6 ⊢
    refine ⟨(by show 2 ≤ sizeLine; decide), fun t nt => ?_⟩
    have s7 := Same.new (o := .tup [.str "all", .ref p]) nt
    have nD0 : H' D = none := sA.free nD
    refine tail _ t p ys qs (But.same sA ((But.of s3).trans (b4.trans (But.of (s5.trans s7)))) nD0) upd_same (s7 _ _ g6) (hq.same (s5.trans s7)) hoq (fun u v => (hmq _).trans (hm4 u v)) (by omega) fun p hp => hx4 p ((hmq p).mp hp)
end
end K50
set_option Elab.async false
set_option linter.all false
set_option maxRecDepth 100000
set_option maxHeartbeats 4000000
namespace K50
open PySem PySem.Spec PyProof.Rows L2 Gd QM SvM K45M PaM
open K51M (Lt sq_nn strict uniq)
open K50M (fL rest r1 r0 slope last runge limit_ok reach_ok root_one six)
section
variable {P : Program} {w : World} {K : PySem.W.Frag} {mg : Str → Option Value} {base : Heap}
/-! ### the law's roots -/
def sp_law_root (K : PySem.W.Frag) : Sp := fun vs H Q _ => ∃ n : Int, vs = [.int n] ∧ 0 ≤ n ∧ B 300 n ∧ ∀ H' r, Same H H' → 0 ≤ r → r * r ≤ n → n < (r + 1) * (r + 1) → Q (.int r) H'
theorem sq_le_self {a n : Int} (h0 : 0 ≤ a) (h : a * a ≤ n) : a ≤ n := by
  rcases (show a < 1 ∨ 1 ≤ a by omega) with e | e
  · have : a = 0 := by omega
    subst this
    exact h
  · have := Int.mul_le_mul_of_nonneg_right e h0
    omega
abbrev s__law_root : Stmt := topS 24
theorem sc__law_root : FnScope ["n", "low", "high", "middle"] ["n"] (defScope s__law_root) := ⟨rfl, rfl, rfl, by decide +kernel, rfl, by decide +kernel, by decide +kernel⟩
theorem k_law_root (T : Tx K mg) (D : Df K mg "_law_root" s__law_root ["n"])  : Kl P w K mg base 1 "_law_root" (sp_law_root K) := by
  have nd := sc__law_root.nd
  refine Kl.by_body D sc__law_root (fun vs H Q E h => ?_) (fun f cdv A outer s H vs Q E hr h => ?_)
  · obtain ⟨_, rfl, _⟩ := h
    rfl
  · obtain ⟨n, rfl, h0, hB, q⟩ := h
    have hu1 := hu_of hr
    refine ⟨_, (pss_cons (ps_asg (pe_tup (pa_cons pe_int (pa_cons pe_int pa_nil))) (pg_tup rfl (pgs_cons (pg_name (i := 1) nd rfl (by first | exact Or.inl rfl | exact Or.inr rfl)) (pgs_cons (pg_name (i := 2) nd rfl (by first | exact Or.inl rfl | exact Or.inr rfl)) pgs_nil))))
      (pss_cons (ps_while PassesOwn.never (pt_cmpR op_le (pe_op op_mulW (pv 2) (pv 2)) (pv 0) (nomark _)) (pss_one (ps_par (i := 1) (j := 2) (by rfl) nd rfl rfl (by decide) rfl rfl (pa_cons (pv 2) (pa_cons (pe_op op_mul pe_int (pv 2)) pa_nil)) (by rfl))))
      (pss_cons (ps_while PassesOwn.never (pt_cmpR op_gt (pe_op op_sub (pv 2) (pv 1)) pe_int (nomark _)) (pss_cons (ps_set (i := 3) nd rfl (by first | exact Or.inl rfl | exact Or.inr rfl) (pe_op op_fdiv (pe_op op_add (pv 1) (pv 2)) pe_int))
      (pss_one (ps_asg (pe_ifExp (pt_cmpR op_le (pe_op op_mulW (pv 3) (pv 3)) (pv 0) (nomark _)) (pe_tup (pa_cons (pv 3) (pa_cons (pv 2) pa_nil))) (pe_tup (pa_cons (pv 1) (pa_cons (pv 3) pa_nil)))) (pg_tup rfl (pgs_cons (pg_name (i := 1) nd rfl (by first | exact Or.inl rfl | exact Or.inr rfl)) (pgs_cons (pg_name (i := 2) nd rfl (by first | exact Or.inl rfl | exact Or.inr rfl)) pgs_nil)))))))
      (pss_one (ps_ret (pv 1)))))), ?_⟩
    refine ⟨(by show 2 ≤ sizeLine; decide), fun t0 nt0 => ?_⟩
    have s1 := Same.new (H := H) (p := t0) (o := .tup [.int 0, .int 1]) nt0
    have g1 : upd H t0 (.tup [.int 0, .int 1]) t0 = some (.tup [.int 0, .int 1]) := upd_same
    generalize upd H t0 (.tup [.int 0, .int 1]) = H1 at s1 g1 ⊢
    refine ⟨t0, _, rfl, tup_of g1, rfl, _, _, rfl, _, _, rfl, rfl, ?_⟩
    first | refine sigN [some (.int (n)), some (.int (0)), some (.int (1)), none] (by rfl) ?_ | refine sig [some (.int (n)), some (.int (0)), some (.int (1)), none] (by rfl) ?_
    refine while_by (fun σ H2 => H2 = H1 ∧ ∃ lo hi : Int, σ = [some (.int n), some (.int lo), some (.int hi), none] ∧ 0 ≤ lo ∧ lo < hi ∧ hi ≤ 2 * n + 1 ∧ lo * lo ≤ n)
      (fun σ _ => match σ with | [_, _, some (.int hi), _] => (n + 1 - hi).toNat | _ => 0) ⟨rfl, 0, 1, rfl, by decide, by decide, by omega, by omega⟩ ?_ ?_
    · rintro σ H2 ⟨rfl, lo, hi, rfl, l0, lh, hb, ll⟩
      have hiB : B 302 hi := by
        unfold Gd.B at *
        omega
      refine ⟨_, rfl, _, rfl, _, _, rfl, rfl, hiB.mulW hiB (by decide), _, rfl, _, _, rfl, rfl, _, rfl, ?_⟩
      by_cases hh : hi * hi ≤ n
      · refine iteY (decide_eq_true hh) ?_
        have h1 := sq_le_self (show 0 ≤ hi by omega) hh
        refine ⟨_, rfl, _, rfl, _, _, rfl, rfl, (Or.inl ⟨by decide, by decide⟩), _, _, rfl, ?_⟩
        refine ⟨⟨rfl, hi, 2 * hi, rfl, by omega, by omega, by omega, hh⟩, ?_⟩
        show (n + 1 - 2 * hi).toNat < (n + 1 - hi).toNat
        omega
      · refine iteN (by simpa using hh) ?_
        have hg : n < hi * hi := by omega
        refine while_by (fun σ H3 => Same H2 H3 ∧ ∃ (lo hi : Int) (v : Option V), σ = [some (.int n), some (.int lo), some (.int hi), v] ∧ 0 ≤ lo ∧ lo < hi ∧ lo * lo ≤ n ∧ n < hi * hi ∧ B 302 hi)
          (fun σ _ => match σ with | [_, some (.int lo), some (.int hi), _] => (hi - lo).toNat | _ => 0) ⟨Same.refl _, lo, hi, none, rfl, l0, lh, ll, hg, hiB⟩ ?_ ?_
        · rintro σ H3 ⟨s3, lo, hi, v, rfl, l0, lh, ll, hg, hiB⟩
          refine ⟨_, rfl, _, rfl, _, _, rfl, rfl, _, _, rfl, rfl, _, rfl, ?_⟩
          by_cases hh : 1 < hi - lo
          · refine iteY (decide_eq_true hh) ?_
            refine ⟨_, rfl, _, rfl, _, _, rfl, rfl, _, _, rfl, rfl, ⟨by decide, by decide⟩, ?_⟩
            first | refine sigN [some (.int (n)), some (.int (lo)), some (.int (hi)), some (.int ((lo + hi) / 2))] (by rfl) ?_ | refine sig [some (.int (n)), some (.int (lo)), some (.int (hi)), some (.int ((lo + hi) / 2))] (by rfl) ?_
            have m1 : lo < (lo + hi) / 2 := by omega
            have m2 : (lo + hi) / 2 < hi := by omega
            generalize (lo + hi) / 2 = mid at m1 m2 ⊢
            have mB : B 302 mid := by
              unfold Gd.B at *
              omega
            refine ⟨_, rfl, _, rfl, _, _, rfl, rfl, mB.mulW mB (by decide), _, rfl, _, _, rfl, rfl, _, rfl, ite2 (fun e => ?_) (fun e => ?_)⟩
            · have e' : mid * mid ≤ n := of_decide_eq_true e
              refine ⟨_, rfl, _, rfl, (by show 2 ≤ sizeLine; decide), fun t nt => ?_⟩
              refine ⟨t, _, rfl, tup_of upd_same, rfl, _, _, rfl, _, _, rfl, rfl, ?_⟩
              refine ⟨⟨Same.put s3 (s3.free nt), mid, hi, _, rfl, by omega, m2, e', hg, hiB⟩, ?_⟩
              show (hi - mid).toNat < (hi - lo).toNat
              omega
            · have e' : ¬ mid * mid ≤ n := fun z => e (decide_eq_true z)
              refine ⟨_, rfl, _, rfl, (by show 2 ≤ sizeLine; decide), fun t nt => ?_⟩
              refine ⟨t, _, rfl, tup_of upd_same, rfl, _, _, rfl, _, _, rfl, rfl, ?_⟩
              refine ⟨⟨Same.put s3 (s3.free nt), lo, mid, _, rfl, l0, m1, ll, by omega, mB⟩, ?_⟩
              show (mid - lo).toNat < (hi - lo).toNat
              omega
          · refine iteN (by simpa using hh) ?_
            have e : hi = lo + 1 := by omega
            subst e
            exact ⟨_, rfl, q _ lo (s1.trans s3) l0 ll hg⟩
        · rintro σ H3 Q1 Q2 i ⟨v, hv, v2, hv2, x, y, e1, e2, x2, y2, e3, e4, k, e, z⟩
          exact ⟨v, hv, v2, hv2, x, y, e1, e2, x2, y2, e3, e4, k, e, i _ _ z⟩
    · rintro σ H2 Q1 Q2 i ⟨v, hv, v2, hv2, x, y, e1, e2, c, v3, hv3, x2, y2, e3, e4, k, e, z⟩
      exact ⟨v, hv, v2, hv2, x, y, e1, e2, c, v3, hv3, x2, y2, e3, e4, k, e, i _ _ z⟩

def fV (a b c d : Int) : List V := [.int a, .int b, .int c, .int d]
def sp_law_value (K : PySem.W.Frag) : Sp := fun vs H Q _ => ∃ (p : Addr) (a b c d x : Int), vs = [.ref p, .int x] ∧ SqT K H p (fV a b c d) ∧ S4 a b c d ∧ B 20 x ∧ Q (.int (ev (fL a b c d) x)) H
abbrev s__law_value : Stmt := topS 25
theorem sc__law_value : FnScope ["f", "x", "a", "b", "c", "d"] ["f", "x"] (defScope s__law_value) := ⟨rfl, rfl, rfl, by decide +kernel, rfl, by decide +kernel, by decide +kernel⟩
theorem k_law_value (T : Tx K mg) (D : Df K mg "_law_value" s__law_value ["f", "x"])  : Kl P w K mg base 1 "_law_value" (sp_law_value K) := by
  have nd := sc__law_value.nd
  refine Kl.by_body D sc__law_value (fun vs H Q E h => ?_) (fun f cdv A outer s H vs Q E hr h => ?_)
  · obtain ⟨_, _, _, _, _, _, rfl, _⟩ := h
    rfl
  · obtain ⟨p, a, b, c, d, x, rfl, hp, h4, hx, q⟩ := h
    have hu1 := hu_of hr
    refine ⟨_, (pss_cons (ps_asg (pv 0) (pg_tup rfl (pgs_cons (pg_name (i := 2) nd rfl (by first | exact Or.inl rfl | exact Or.inr rfl)) (pgs_cons (pg_name (i := 3) nd rfl (by first | exact Or.inl rfl | exact Or.inr rfl)) (pgs_cons (pg_name (i := 4) nd rfl (by first | exact Or.inl rfl | exact Or.inr rfl)) (pgs_cons (pg_name (i := 5) nd rfl (by first | exact Or.inl rfl | exact Or.inr rfl)) pgs_nil))))))
      (pss_one (ps_ret (pe_op op_add (pe_op op_mulW (pe_op op_add (pe_op op_mulW (pe_op op_add (pe_op op_mulW (pe_op op_add (pv 1) (pv 2)) (pv 1)) (pv 3)) (pv 1)) (pv 4)) (pv 1)) (pv 5))))), ?_⟩
    have aB : B 4 a := by
      have := h4.ha
      unfold Gd.B
      omega
    have bB : B 6 b := by
      have := h4.hb
      unfold Gd.B
      omega
    have cB : B 8 c := by
      have := h4.hc
      unfold Gd.B
      omega
    refine ⟨_, rfl, p, _, rfl, hp, rfl, _, _, rfl, _, _, rfl, _, _, rfl, _, _, rfl, rfl, ?_⟩
    first | refine sigN [some (.ref p), some (.int (x)), some (.int (a)), some (.int (b)), some (.int (c)), some (.int (d))] (by rfl) ?_ | refine sig [some (.ref p), some (.int (x)), some (.int (a)), some (.int (b)), some (.int (c)), some (.int (d))] (by rfl) ?_
    have e1 := hx.add aB
    have e2 := (e1.mul hx).add bB
    have e3 := (e2.mul hx).add cB
    refine ⟨_, rfl, _, rfl, _, _, rfl, rfl, _, rfl, _, _, rfl, rfl, e1.mulW hx (by decide), _, rfl, _, _, rfl, rfl, _, rfl, _, _, rfl, rfl, e2.mulW hx (by decide), _, rfl, _, _, rfl, rfl, _, rfl, _, _, rfl, rfl, e3.mulW hx (by decide), _, rfl, _, _, rfl, rfl, ?_⟩
    have e : (((x + a) * x + b) * x + c) * x + d = ev (fL a b c d) x := by
      rw [K50M.evL]
      grind
    rw [← e] at q
    exact q
def sp_law_rest (K : PySem.W.Frag) : Sp := fun vs H Q _ => ∃ (p : Addr) (a b c d : Int), vs = [.ref p] ∧ SqT K H p (fV a b c d) ∧ S4 a b c d ∧ ∀ H' t, Same H H' → H' t = some (.tup [.int (r1 a b c), .int (r0 a b d)]) → Q (.ref t) H'
abbrev s__law_rest : Stmt := topS 26
theorem sc__law_rest : FnScope ["f", "a", "b", "c", "d", "low"] ["f"] (defScope s__law_rest) := ⟨rfl, rfl, rfl, by decide +kernel, rfl, by decide +kernel, by decide +kernel⟩
theorem k_law_rest (T : Tx K mg) (D : Df K mg "_law_rest" s__law_rest ["f"])  : Kl P w K mg base 1 "_law_rest" (sp_law_rest K) := by
  have nd := sc__law_rest.nd
  refine Kl.by_body D sc__law_rest (fun vs H Q E h => ?_) (fun f cdv A outer s H vs Q E hr h => ?_)
  · obtain ⟨_, _, _, _, _, rfl, _⟩ := h
    rfl
  · obtain ⟨p, a, b, c, d, rfl, hp, h4, q⟩ := h
    have hu1 := hu_of hr
    refine ⟨_, (pss_cons (ps_asg (pv 0) (pg_tup rfl (pgs_cons (pg_name (i := 1) nd rfl (by first | exact Or.inl rfl | exact Or.inr rfl)) (pgs_cons (pg_name (i := 2) nd rfl (by first | exact Or.inl rfl | exact Or.inr rfl)) (pgs_cons (pg_name (i := 3) nd rfl (by first | exact Or.inl rfl | exact Or.inr rfl)) (pgs_cons (pg_name (i := 4) nd rfl (by first | exact Or.inl rfl | exact Or.inr rfl)) pgs_nil))))))
      (pss_cons (ps_set (i := 5) nd rfl (by first | exact Or.inl rfl | exact Or.inr rfl) (pe_op op_sub (pe_op op_mul pe_int (pv 2)) (pe_op op_mulW (pv 1) (pv 1))))
      (pss_one (ps_ret (pe_tup (pa_cons (pe_op op_sub (pe_op op_mul pe_int (pv 3)) (pe_op op_mulW (pe_op op_mul pe_int (pv 1)) (pv 5))) (pa_cons (pe_op op_sub (pe_op op_mul pe_int (pv 4)) (pe_op op_mulW (pv 5) (pv 5))) pa_nil))))))), ?_⟩
    have aB : B 4 a := by
      have := h4.ha
      unfold Gd.B
      omega
    have rB : B 9 (rest a b) := by
      have := h4.rest
      unfold Gd.B
      omega
    refine ⟨_, rfl, p, _, rfl, hp, rfl, _, _, rfl, _, _, rfl, _, _, rfl, _, _, rfl, rfl, ?_⟩
    first | refine sigN [some (.ref p), some (.int (a)), some (.int (b)), some (.int (c)), some (.int (d)), none] (by rfl) ?_ | refine sig [some (.ref p), some (.int (a)), some (.int (b)), some (.int (c)), some (.int (d)), none] (by rfl) ?_
    refine ⟨_, rfl, _, _, rfl, rfl, (Or.inl ⟨by decide, by decide⟩), _, rfl, _, rfl, _, _, rfl, rfl, aB.mulW aB (by decide), _, _, rfl, rfl, ?_⟩
    first | refine sigN [some (.ref p), some (.int (a)), some (.int (b)), some (.int (c)), some (.int (d)), some (.int (rest a b))] (by rfl) ?_ | refine sig [some (.ref p), some (.int (a)), some (.int (b)), some (.int (c)), some (.int (d)), some (.int (rest a b))] (by rfl) ?_
    refine ⟨_, rfl, _, _, rfl, rfl, (Or.inl ⟨by decide, by decide⟩), _, rfl, _, _, rfl, rfl, (Or.inl ⟨by decide, by decide⟩), _, rfl, _, _, rfl, rfl, ((B.lit (n := 4) (by decide)).mul aB).mulW rB (by decide), _, _, rfl, rfl, ?_⟩
    refine ⟨_, rfl, _, _, rfl, rfl, (Or.inl ⟨by decide, by decide⟩), _, rfl, _, rfl, _, _, rfl, rfl, rB.mulW rB (by decide), _, _, rfl, rfl, (by show 2 ≤ sizeLine; decide), fun t nt => ?_⟩
    exact q _ t (Same.new nt) upd_same
def sp_law_reach (K : PySem.W.Frag) : Sp := fun vs H Q _ => ∃ (p : Addr) (a b c d : Int), vs = [.ref p] ∧ SqT K H p (fV a b c d) ∧ S4 a b c d ∧ ∀ H' (l : Nat), Same H H' → l ≤ 500000 → (∀ x : Int, 0 ≤ x → 16 * (x * x) ≤ slope a b c * x + last a b d → x < l) → Q (.int (l : Int)) H'
abbrev s__law_reach : Stmt := topS 27
theorem sc__law_reach : FnScope ["f", "r1", "r0", "low", "reach", "wide", "free"] ["f"] (defScope s__law_reach) := ⟨rfl, rfl, rfl, by decide +kernel, rfl, by decide +kernel, by decide +kernel⟩
theorem k_law_reach (T : Tx K mg) (D : Df K mg "_law_reach" s__law_reach ["f"]) (c_law_rest : Kl P w K mg base 1 "_law_rest" (sp_law_rest K)) : Kl P w K mg base 2 "_law_reach" (sp_law_reach K) := by
  have nd := sc__law_reach.nd
  refine Kl.by_body D sc__law_reach (fun vs H Q E h => ?_) (fun f cdv A outer s H vs Q E hr h => ?_)
  · obtain ⟨_, _, _, _, _, rfl, _⟩ := h
    rfl
  · obtain ⟨p, a, b, c, d, rfl, hp, h4, q⟩ := h
    have hu1 := hu_of hr
    refine ⟨_, (pss_cons (ps_asg (pe_k c_law_rest  hr (by decide) (by rfl) (pa_cons (pv 0) pa_nil)) (pg_tup rfl (pgs_cons (pg_name (i := 1) nd rfl (by first | exact Or.inl rfl | exact Or.inr rfl)) (pgs_cons (pg_name (i := 2) nd rfl (by first | exact Or.inl rfl | exact Or.inr rfl)) pgs_nil))))
      (pss_cons (ps_par (i := 3) (j := 4) (by rfl) nd rfl rfl (by decide) rfl rfl (pa_cons (pe_callB call_abs (by rfl) T.abs (by decide +kernel) (pa_cons (pe_op op_sub (pe_op op_mul pe_int (pe_ix ix_tup (pv 0) pe_int (fun _ _ => rfl))) (pe_op op_mulW (pe_ix ix_tup (pv 0) pe_int (fun _ _ => rfl)) (pe_ix ix_tup (pv 0) pe_int (fun _ _ => rfl)))) pa_nil)) (pa_cons pe_int pa_nil)) (by rfl))
      (pss_cons (ps_par (i := 5) (j := 6) (by rfl) nd rfl rfl (by decide) rfl rfl (pa_cons (pe_op op_add (pe_op op_mul pe_int (pe_callB call_abs (by rfl) T.abs (by decide +kernel) (pa_cons (pe_ix ix_tup (pv 0) pe_int (fun _ _ => rfl)) pa_nil))) (pe_callB call_abs (by rfl) T.abs (by decide +kernel) (pa_cons (pv 1) pa_nil))) (pa_cons (pe_op op_add (pe_op op_add (pe_op op_mul pe_int (pv 3)) pe_int) (pe_callB call_abs (by rfl) T.abs (by decide +kernel) (pa_cons (pv 2) pa_nil))) pa_nil)) (by rfl))
      (pss_cons (ps_while PassesOwn.never (pt_cmpR op_le (pe_op op_mulW (pe_op op_mul pe_int (pv 4)) (pv 4)) (pe_op op_add (pe_op op_mulW (pv 5) (pv 4)) (pv 6)) (nomark _)) (pss_one (ps_set (i := 4) nd rfl (by first | exact Or.inl rfl | exact Or.inr rfl) (pe_op op_mul pe_int (pv 4)))))
      (pss_one (ps_ret (pv 4))))))), ?_⟩
    have hR := h4.rest
    have h1 := h4.r1
    have h0 := h4.r0
    have aB : B 4 a := by
      have := h4.ha
      unfold Gd.B
      omega
    refine ⟨_, rfl, p, a, b, c, d, rfl, hp, h4, fun H1 t s1 gt => ?_⟩
    refine ⟨t, _, rfl, tup_of gt, rfl, _, _, rfl, _, _, rfl, rfl, ?_⟩
    first | refine sigN [some (.ref p), some (.int (r1 a b c)), some (.int (r0 a b d)), none, none, none, none] (by rfl) ?_ | refine sig [some (.ref p), some (.int (r1 a b c)), some (.int (r0 a b d)), none, none, none, none] (by rfl) ?_
    replace hp := Same.tup s1 hp
    refine ⟨_, rfl, p, _, 1, _, rfl, rfl, hp, rfl, _, _, rfl, rfl, (Or.inl ⟨by decide, by decide⟩), _, rfl, p, _, 0, _, rfl, rfl, hp, rfl, _, rfl, p, _, 0, _, rfl, rfl, hp, rfl, _, _, rfl, rfl, aB.mulW aB (by decide), _, _, rfl, rfl, _, rfl, ?_⟩
    rw [abs_nat]
    refine ⟨_, _, rfl, ?_⟩
    obtain ⟨lo, hlo⟩ : ∃ lo : Nat, (rest a b).natAbs = lo := ⟨_, rfl⟩
    rw [show (4 * b - a * a).natAbs = lo from hlo]
    first | refine sigN [some (.ref p), some (.int (r1 a b c)), some (.int (r0 a b d)), some (.int ((lo : Int))), some (.int (1)), none, none] (by rfl) ?_ | refine sig [some (.ref p), some (.int (r1 a b c)), some (.int (r0 a b d)), some (.int ((lo : Int))), some (.int (1)), none, none] (by rfl) ?_
    refine ⟨_, rfl, p, _, 0, _, rfl, rfl, hp, rfl, _, rfl, ?_⟩
    rw [abs_nat]
    refine ⟨_, _, rfl, rfl, (Or.inl ⟨by decide, by decide⟩), _, rfl, _, rfl, ?_⟩
    rw [abs_nat]
    refine ⟨_, _, rfl, rfl, _, rfl, _, _, rfl, rfl, (Or.inl ⟨by decide, by decide⟩), _, _, rfl, rfl, _, rfl, _, rfl, ?_⟩
    rw [abs_nat]
    refine ⟨_, _, rfl, rfl, _, _, rfl, ?_⟩
    obtain ⟨s, hs⟩ : ∃ s : Nat, 8 * a.natAbs + (r1 a b c).natAbs = s := ⟨_, rfl⟩
    have es : 8 * (a.natAbs : Int) + ((r1 a b c).natAbs : Int) = (s : Int) := by omega
    obtain ⟨l, hl⟩ : ∃ l : Nat, 2 * lo + 1 + (r0 a b d).natAbs = l := ⟨_, rfl⟩
    have el : 2 * (lo : Int) + 1 + ((r0 a b d).natAbs : Int) = (l : Int) := by omega
    have es2 : slope a b c = (s : Int) := es
    have el2 : last a b d = (l : Int) := by
      unfold last
      rw [hlo]
      exact el
    rw [es2, el2] at q
    have s4 : s ≤ 40088 := by
      have := h4.ha
      omega
    have l2 : l ≤ 150643 := by omega
    refine while_by (fun σ H2 => H2 = H1 ∧ ∃ r : Nat, σ = [some (.ref p), some (.int (r1 a b c)), some (.int (r0 a b d)), some (.int (lo : Int)), some (.int (r : Int)), some (.int (s : Int)), some (.int (l : Int))] ∧ 0 < r ∧ r ≤ 500000)
      (fun σ _ => match σ with | [_, _, _, _, some (.int r), _, _] => 500000 - r.toNat | _ => 0) ⟨rfl, 1, by rw [← es, ← el]; rfl, by decide, by decide⟩ ?_ ?_
    · rintro σ H2 ⟨rfl, r, rfl, r0', r1'⟩
      have rB : B 20 (r : Int) := by
        unfold Gd.B
        omega
      have sB : B 20 (s : Int) := by
        unfold Gd.B
        omega
      refine ⟨_, rfl, _, _, rfl, rfl, (Or.inl ⟨by decide, by decide⟩), _, rfl, _, _, rfl, rfl, ((B.lit (n := 5) (by decide)).mul rB).mulW rB (by decide), _, rfl, _, rfl, _, _, rfl, rfl, sB.mulW rB (by decide), _, rfl, _, _, rfl, rfl, _, _, rfl, rfl, _, rfl, ?_⟩
      by_cases hle : 16 * (r : Int) * r ≤ (s : Int) * r + l
      · refine iteY (decide_eq_true hle) ?_
        have r2 : r ≤ 200000 := Nat.le_of_not_lt fun z => by
          have a1 : ((16 : Int) * r - s) * 1 ≤ ((16 : Int) * r - s) * r := Int.mul_le_mul_of_nonneg_left (by omega) (by omega)
          have e : ((16 : Int) * r - s) * r = 16 * (r : Int) * r - (s : Int) * r := by grind
          omega
        refine ⟨_, rfl, _, _, rfl, rfl, (Or.inl ⟨by decide, by decide⟩), ?_⟩
        refine ⟨⟨rfl, 2 * r, by push_cast; rfl, by omega, by omega⟩, ?_⟩
        show 500000 - (2 * (r : Int)).toNat < 500000 - (r : Int).toNat
        omega
      · refine iteN (by simpa using hle) ?_
        refine ⟨_, rfl, q _ r s1 (by omega) fun x x0 hx => ?_⟩
        have e : 16 * (r : Int) * r = 16 * ((r : Int) * r) := by grind
        exact reach_ok (s := (s : Int)) (l := (l : Int)) (by omega) (by omega) (by omega) hx
    · rintro σ H2 Q1 Q2 i ⟨v, hv, x, y, e1, e2, c1, v2, hv2, x2, y2, e3, e4, c2, v3, hv3, v4, hv4, x5, y5, e5, e6, c3, v6, hv6, x7, y7, e7, e8, x9, y9, e9, e10, k, e11, z⟩
      exact ⟨v, hv, x, y, e1, e2, c1, v2, hv2, x2, y2, e3, e4, c2, v3, hv3, v4, hv4, x5, y5, e5, e6, c3, v6, hv6, x7, y7, e7, e8, x9, y9, e9, e10, k, e11, i _ _ z⟩
/-! ### the law's own answer -/
def sp_law_due (K : PySem.W.Frag) : Sp := fun vs H Q _ => ∃ (p : Addr) (a b c d : Int), vs = [.ref p] ∧ SqT K H p (fV a b c d) ∧ S4 a b c d ∧ ∀ H' t D, Same H H' → Dp K H' (.ref t) D → Good a b c d D → Q (.ref t) H'
abbrev s__law_due : Stmt := topS 28
theorem sc__law_due : FnScope ["f", "r1", "r0", "reach", "found", "some", "x", "side", "y"] ["f"] (defScope s__law_due) := ⟨rfl, rfl, rfl, by decide +kernel, rfl, by decide +kernel, by decide +kernel⟩
theorem k_law_due (T : Tx K mg) (D : Df K mg "_law_due" s__law_due ["f"]) (c_law_rest : Kl P w K mg base 1 "_law_rest" (sp_law_rest K)) (c_law_reach : Kl P w K mg base 2 "_law_reach" (sp_law_reach K)) (c_law_value : Kl P w K mg base 1 "_law_value" (sp_law_value K)) (c_law_root : Kl P w K mg base 1 "_law_root" (sp_law_root K)) : Kl P w K mg base 3 "_law_due" (sp_law_due K) := by
  have nd := sc__law_due.nd
  refine Kl.by_body D sc__law_due (fun vs H Q E h => ?_) (fun f cdv A outer s H vs Q E hr h => ?_)
  · obtain ⟨_, _, _, _, _, rfl, _⟩ := h
    rfl
  · obtain ⟨p, a, b, c, d, rfl, hp, h4, q⟩ := h
    have hu1 := hu_of hr
    refine ⟨_, (pss_cons (ps_asg (pe_k c_law_rest  hr (by decide) (by rfl) (pa_cons (pv 0) pa_nil)) (pg_tup rfl (pgs_cons (pg_name (i := 1) nd rfl (by first | exact Or.inl rfl | exact Or.inr rfl)) (pgs_cons (pg_name (i := 2) nd rfl (by first | exact Or.inl rfl | exact Or.inr rfl)) pgs_nil))))
      (pss_cons (ps_if (pt_cmpR (op_eqD hr.units) (pe_tup (pa_cons (pv 1) (pa_cons (pv 2) pa_nil))) (pe_tup (pa_cons pe_int (pa_cons pe_int pa_nil))) (nomark _)) (pss_one (ps_ret (pe_tup (pa_cons pe_str (pa_cons (pe_tup (pa_cons pe_int (pa_cons (pe_op op_mul pe_int (pe_ix ix_tup (pv 0) pe_int (fun _ _ => rfl))) (pa_cons (pe_op op_sub (pe_op op_mul pe_int (pe_ix ix_tup (pv 0) pe_int (fun _ _ => rfl))) (pe_op op_mulW (pe_ix ix_tup (pv 0) pe_int (fun _ _ => rfl)) (pe_ix ix_tup (pv 0) pe_int (fun _ _ => rfl)))) pa_nil)))) pa_nil))))) pss_nil)
      (pss_cons (ps_par (i := 3) (j := 4) (by rfl) nd rfl rfl (by decide) rfl rfl (pa_cons (pe_k c_law_reach  hr (by decide) (by rfl) (pa_cons (pv 0) pa_nil)) (pa_cons (pe_lst pa_nil) pa_nil)) (by rfl))
      (pss_cons (ps_set (i := 5) nd rfl (by first | exact Or.inl rfl | exact Or.inr rfl) (pe_listRg rfl (by rfl) T.list (prg_2 (by rfl) T.range (pe_un un_neg (pv 3)) (pe_op op_add (pv 3) pe_int))))
      (C8.pss_cut (ps_if (PW.pt (pw_and (pt_cmpR op_ne (pv 1) pe_int (nomark _)) (pw_and (pt_cmpR op_eq (pe_op op_mod (pe_callTy call_intI (by rfl) T.int (by decide +kernel) (pa_cons (pv 2) pa_nil)) (pe_callB call_abs (by rfl) T.abs (by decide +kernel) (pa_cons (pv 1) pa_nil))) pe_int (nomark _)) (pw_and1 (pt_cmpR op_gt (pe_callB call_abs (by rfl) T.abs (by decide +kernel) (pa_cons (pe_op op_fdivN (pv 2) (pv 1)) pa_nil)) (pv 3) (nomark _)))))) (pss_one (ps_expr (pe_bm PySem.F.plainAttrs_list PySem.F.slot_list_append PySem.F.type_list_append mt_append (pv 5) (pa_cons (pe_op op_fdivN (pe_un un_neg (pv 2)) (pv 1)) pa_nil)))) pss_nil)
      (pss_cons (ps_for PassesOwn.never rfl (pi_list (pe_callB cr_sortedI (by rfl) T.sorted (by decide +kernel) (pa_cons (pv 5) pa_nil))) (pg_name (i := 6) nd rfl (by first | exact Or.inl rfl | exact Or.inr rfl)) (pss_cons (ps_set (i := 7) nd rfl (by first | exact Or.inl rfl | exact Or.inr rfl) (pe_k c_law_value  hr (by decide) (by rfl) (pa_cons (pv 0) (pa_cons (pv 6) pa_nil))))
      (pss_one (ps_if (PW.pt (pw_and (pt_cmpR op_ge (pv 7) pe_int (nomark _)) (pw_and1 (pt_cmpR op_eq (pe_op op_pow (pe_k c_law_root  hr (by decide) (by rfl) (pa_cons (pv 7) pa_nil)) pe_int) (pv 7) (nomark _))))) (pss_cons (ps_set (i := 8) nd rfl (by first | exact Or.inl rfl | exact Or.inr rfl) (pe_k c_law_root  hr (by decide) (by rfl) (pa_cons (pv 7) pa_nil)))
      (pss_one (ps_set (i := 4) nd rfl (by first | exact Or.inl rfl | exact Or.inr rfl) (pe_op op_cat (pv 4) (pe_ifExp (pt_cmpR op_eq (pv 8) pe_int (nomark _)) (pe_lst (pa_cons (pe_tup (pa_cons (pv 6) (pa_cons pe_int pa_nil))) pa_nil)) (pe_lst (pa_cons (pe_tup (pa_cons (pv 6) (pa_cons (pe_un un_neg (pv 8)) pa_nil))) (pa_cons (pe_tup (pa_cons (pv 6) (pa_cons (pv 8) pa_nil))) pa_nil)))))))) pss_nil))))
      (pss_one (ps_ret (pe_tup (pa_cons pe_str (pa_cons (pe_callTy call_tuple_of (by rfl) T.tuple (by decide +kernel) (pa_cons (pv 4) pa_nil)) pa_nil))))))))))), ?_⟩
    have hR := h4.rest
    have h1 := h4.r1
    have h0 := h4.r0
    have aB : B 4 a := by
      have := h4.ha
      unfold Gd.B
      omega
    refine ⟨_, rfl, p, a, b, c, d, rfl, hp, h4, fun H1 t s1 gt => ?_⟩
    refine ⟨t, _, rfl, tup_of gt, rfl, _, _, rfl, _, _, rfl, rfl, ?_⟩
    obtain ⟨q1, hq1⟩ : ∃ q1, r1 a b c = q1 := ⟨_, rfl⟩
    obtain ⟨q0, hq0⟩ : ∃ q0, r0 a b d = q0 := ⟨_, rfl⟩
    first | refine sigN [some (.ref p), some (.int (r1 a b c)), some (.int (r0 a b d)), none, none, none, none, none, none] (by rfl) ?_ | refine sig [some (.ref p), some (.int (r1 a b c)), some (.int (r0 a b d)), none, none, none, none, none, none] (by rfl) ?_
    rw [hq1] at h1
    rw [hq0] at h0
    rw [hq1, hq0]
    replace hp := Same.tup s1 hp
    refine ⟨_, rfl, _, rfl, (by show 2 ≤ sizeLine; decide), fun t2 n2 => ?_⟩
    have s2 := Same.new (H := H1) (p := t2) (o := .tup [.int q1, .int q0]) n2
    have g2 : upd H1 t2 (.tup [.int q1, .int q0]) t2 = some (.tup [.int q1, .int q0]) := upd_same
    generalize upd H1 t2 (.tup [.int q1, .int q0]) = H2 at s2 g2 ⊢
    refine ⟨(by show 2 ≤ sizeLine; decide), fun t3 n3 => ?_⟩
    have s3 := Same.new (H := H2) (p := t3) (o := .tup [.int 0, .int 0]) n3
    have g3 : upd H2 t3 (.tup [.int 0, .int 0]) t3 = some (.tup [.int 0, .int 0]) := upd_same
    generalize upd H2 t3 (.tup [.int 0, .int 0]) = H3 at s3 g3 ⊢
    have hp4 := Same.tup (s2.trans s3) hp
    refine ⟨.tuple [.int q1, .int q0], .tuple [.int 0, .int 0], .tup (tup_of (s3 _ _ g2)) (.cons (.int _) (.cons (.int _) .nil)), .tup (tup_of g3) (.cons (.int _) (.cons (.int _) .nil)), rfl, rfl, _, rfl, ?_⟩
    rw [show PyData.eqv (.tuple [.int q1, .int q0]) (.tuple [.int 0, .int 0]) = (decide (q1 = 0) && decide (q0 = 0)) by
      rw [Bool.eq_iff_iff]
      simp [PyData.eqv, PyData.eqvAll]]
    have sA := s1.trans (s2.trans s3)
    by_cases z : q1 = 0 ∧ q0 = 0
    · refine iteY (by simp [z.1, z.2]) ?_
      refine ⟨_, rfl, p, _, 0, _, rfl, rfl, hp4, rfl, _, _, rfl, rfl, (Or.inl ⟨by decide, by decide⟩), _, rfl, p, _, 1, _, rfl, rfl, hp4, rfl, _, _, rfl, rfl, (Or.inl ⟨by decide, by decide⟩), _, rfl, p, _, 0, _, rfl, rfl, hp4, rfl, _, rfl, p, _, 0, _, rfl, rfl, hp4, rfl, _, _, rfl, rfl, aB.mulW aB (by decide), _, _, rfl, rfl, (by show 3 ≤ sizeLine; decide), fun w nw => ?_⟩
      refine ⟨(by show 2 ≤ sizeLine; decide), fun r nr => ?_⟩
      have s4 := Same.new (o := .tup [.int 8, .int (4 * a), .int (rest a b)]) nw
      have s5 := Same.new (o := .tup [.str "square", .ref w]) nr
      refine q _ r (.tuple [.str "square", .tuple [.int 8, .int (4 * a), .int (rest a b)]]) (sA.trans (s4.trans s5)) (.tup (tup_of upd_same) (.cons (.str _) (.cons (.tup (tup_of (s5 _ _ upd_same)) (.cons (.int _) (.cons (.int _) (.cons (.int _) .nil)))) .nil))) ⟨fun _ _ => rfl, fun nz => (nz (by rw [hq1, hq0]; exact z)).elim⟩
    refine iteN (by simpa using z) ?_
    have nz : ¬ (r1 a b c = 0 ∧ r0 a b d = 0) := by
      rw [hq1, hq0]
      exact z
    refine ⟨_, rfl, p, a, b, c, d, rfl, hp4, h4, fun H4 l s4 l5 hl => ?_⟩
    refine ⟨(by show 0 ≤ sizeLine; decide), fun D0 nD0 => ?_⟩
    have s5 := Same.new (H := H4) (p := D0) (o := .lst []) nD0
    have gD0 : upd H4 D0 (.lst []) D0 = some (.lst []) := upd_same
    generalize upd H4 D0 (.lst []) = H5 at s5 gD0 ⊢
    refine ⟨_, _, rfl, ?_⟩
    first | refine sigN [some (.ref p), some (.int (q1)), some (.int (q0)), some (.int ((l : Int))), some (.ref D0), none, none, none, none] (by rfl) ?_ | refine sig [some (.ref p), some (.int (q1)), some (.int (q0)), some (.int ((l : Int))), some (.ref D0), none, none, none, none] (by rfl) ?_
    refine ⟨_, rfl, _, rfl, _, rfl, _, _, rfl, rfl, _, _, rfl, rfl, ⟨by omega, by omega, by omega, by omega, by omega⟩, fun Ds nDs => ?_⟩
    have rg : rgV (-(l : Int)) ((l : Int) + 1) = ((List.range (2 * l + 1)).map fun (i : Nat) => -(l : Int) + i).map V.int := by
      unfold rgV
      rw [show ((l : Int) + 1 - -(l : Int)).toNat = 2 * l + 1 by omega, List.map_map]
      rfl
    refine hpN (upd H5 Ds (.lst (((List.range (2 * l + 1)).map fun (i : Nat) => -(l : Int) + i).map V.int))) (by rw [rg]) ?_
    have xmem : ∀ u : Int, u ∈ ((List.range (2 * l + 1)).map fun (i : Nat) => -(l : Int) + i) ↔ -(l : Int) ≤ u ∧ u ≤ l := by
      intro u
      rw [List.mem_map]
      constructor
      · rintro ⟨i, hi, rfl⟩
        have := List.mem_range.mp hi
        omega
      · rintro ⟨h1, h2⟩
        exact ⟨(u + l).toNat, List.mem_range.mpr (by omega), by omega⟩
    have xnd : ((List.range (2 * l + 1)).map fun (i : Nat) => -(l : Int) + i).Nodup := by
      refine List.Pairwise.map _ (fun i j h e => h ?_) (List.nodup_range)
      omega
    have xlen : ((List.range (2 * l + 1)).map fun (i : Nat) => -(l : Int) + i).length = 2 * l + 1 := by rw [List.length_map, List.length_range]
    generalize ((List.range (2 * l + 1)).map fun (i : Nat) => -(l : Int) + i) = xs at xmem xnd xlen ⊢
    have s6 := Same.new (H := H5) (p := Ds) (o := .lst (xs.map V.int)) nDs
    have gDs : upd H5 Ds (.lst (xs.map V.int)) Ds = some (.lst (xs.map V.int)) := upd_same
    generalize upd H5 Ds (.lst (xs.map V.int)) = H6 at s6 gDs ⊢
    first | refine sigN [some (.ref p), some (.int (q1)), some (.int (q0)), some (.int ((l : Int))), some (.ref D0), some (.ref Ds), none, none, none] (by rfl) ?_ | refine sig [some (.ref p), some (.int (q1)), some (.int (q0)), some (.int ((l : Int))), some (.ref D0), some (.ref Ds), none, none, none] (by rfl) ?_
    have runge' : ∀ {x y : Int}, y * y = ev (fL a b c d) x → ¬ (-(l : Int) ≤ x ∧ x ≤ l) → q1 ≠ 0 ∧ q1 ∣ q0 ∧ x = -q0 / q1 := by
      intro x y h hn
      rcases runge h with w | w
      · rw [hq1, hq0] at w
        have q1n : q1 ≠ 0 := by
          rintro rfl
          exact z ⟨rfl, by omega⟩
        exact ⟨q1n, root_one q1n w⟩
      · have := hl x.natAbs (by omega) w
        omega
    have nD6 : H Ds = none := (sA.trans (s4.trans s5)).free nDs
    refine ⟨fun σ' H7 => σ' = [some (.ref p), some (.int q1), some (.int q0), some (.int (l : Int)), some (.ref D0), some (.ref Ds), none, none, none] ∧ But Ds H6 H7 ∧ ∃ xs : List Int, H7 Ds = some (.lst (xs.map V.int)) ∧ xs.Nodup ∧ (∀ u v : Int, v * v = ev (fL a b c d) u → u ∈ xs) ∧ xs.length ≤ 1000100 ∧ ∀ u ∈ xs, u.natAbs ≤ 600000, ?_, ?_⟩
    · have fin0 : (∀ u v : Int, v * v = ev (fL a b c d) u → -(l : Int) ≤ u ∧ u ≤ l) → [some (V.ref p), some (.int q1), some (.int q0), some (.int (l : Int)), some (.ref D0), some (.ref Ds), none, none, none] = [some (V.ref p), some (.int q1), some (.int q0), some (.int (l : Int)), some (.ref D0), some (.ref Ds), none, none, none] ∧ But Ds H6 H6 ∧ ∃ xs : List Int, H6 Ds = some (.lst (xs.map V.int)) ∧ xs.Nodup ∧ (∀ u v : Int, v * v = ev (fL a b c d) u → u ∈ xs) ∧ xs.length ≤ 1000100 ∧ ∀ u ∈ xs, u.natAbs ≤ 600000 := by
        intro hin
        refine ⟨rfl, But.refl _ _, xs, gDs, xnd, fun u v h => (xmem u).mpr (hin u v h), by omega, fun u hu => ?_⟩
        have := (xmem u).mp hu
        omega
      refine ⟨_, rfl, rfl, _, rfl, ?_⟩
      rw [dec_int]
      by_cases z1 : q1 = 0
      · refine iteN (by simpa using z1) ?_
        exact fin0 fun u v h => by
          by_cases hn : -(l : Int) ≤ u ∧ u ≤ l
          · exact hn
          · exact ((runge' h hn).1 z1).elim
      refine iteY (by simpa using z1) ?_
      refine ⟨_, rfl, _, rfl, _, rfl, _, rfl, ?_⟩
      rw [abs_nat]
      refine ⟨_, _, rfl, rfl, (by show (0 : Int) < (q1.natAbs : Int); omega), rfl, _, rfl, ?_⟩
      rw [dec_int]
      by_cases hd : q1 ∣ q0
      · refine iteY (beq_iff_eq.mpr (Int.emod_eq_zero_of_dvd (Int.natAbs_dvd.mpr hd))) ?_
        refine ⟨_, rfl, _, rfl, _, _, rfl, rfl, ⟨z1, by omega⟩, _, rfl, ?_⟩
        rw [abs_nat, Int.fdiv_eq_ediv_of_dvd hd]
        have en : -q0 / q1 = -(q0 / q1) := Int.neg_ediv_of_dvd hd
        have xa : (q0 / q1).natAbs ≤ q0.natAbs := by
          have e := congrArg Int.natAbs (Int.mul_ediv_cancel' hd)
          rw [Int.natAbs_mul] at e
          have := Nat.mul_le_mul_right (q0 / q1).natAbs (show 1 ≤ q1.natAbs by omega)
          omega
        refine ⟨_, rfl, _, _, rfl, rfl, _, rfl, ?_⟩
        by_cases hgt : (l : Int) < ((q0 / q1).natAbs : Int)
        · refine iteY (decide_eq_true hgt) ?_
          have hd' : q1 ∣ -q0 := Int.dvd_neg.mpr hd
          refine ⟨_, rfl, .inl ⟨rfl, _, lst_of gDs⟩, _, rfl, _, rfl, _, rfl, _, _, rfl, rfl, ⟨z1, by omega⟩, Ds, xs.map V.int, .int (-q0 / q1), rfl, by rw [← Int.fdiv_eq_ediv_of_dvd hd'], gDs, Nat.lt_of_le_of_lt (show (xs.map V.int).length ≤ 1000010 by rw [List.length_map]; omega) (by decide), ?_⟩
          obtain ⟨x0, hx0⟩ : ∃ x0, -q0 / q1 = x0 := ⟨_, rfl⟩
          rw [hx0]
          refine ⟨rfl, But.upd, xs ++ [x0], by rw [upd_same, List.map_append]; rfl, ?_, ?_, by rw [List.length_append]; show xs.length + 1 ≤ 1000100; omega, ?_⟩
          · refine List.nodup_append.mpr ⟨xnd, List.nodup_cons.mpr ⟨fun w => (by cases w), List.nodup_nil⟩, ?_⟩
            rintro u hu w hw rfl
            have := (xmem u).mp hu
            have := List.mem_singleton.mp hw
            omega
          · intro u v h
            by_cases hn : -(l : Int) ≤ u ∧ u ≤ l
            · exact List.mem_append_left _ ((xmem u).mpr hn)
            · obtain ⟨-, -, e⟩ := runge' h hn
              exact List.mem_append_right _ (List.mem_singleton.mpr (e.trans hx0))
          · intro u hu
            rcases List.mem_append.mp hu with w | w
            · have := (xmem u).mp w
              omega
            · have := List.mem_singleton.mp w
              omega
        · refine iteN (by simpa using hgt) ?_
          exact fin0 fun u v h => by
            by_cases hn : -(l : Int) ≤ u ∧ u ≤ l
            · exact hn
            · obtain ⟨-, -, e⟩ := runge' h hn
              omega
      · refine iteN (fun w => hd (Int.natAbs_dvd.mp (Int.dvd_of_emod_eq_zero (beq_iff_eq.mp w)))) ?_
        exact fin0 fun u v h => by
          by_cases hn : -(l : Int) ≤ u ∧ u ≤ l
          · exact hn
          · exact (hd (runge' h hn).2.1).elim
    clear xmem xnd xlen gDs xs
    rintro σ' H7 ⟨rfl, b7, xs, gDs, xnd, hin, xlen, xb⟩
    have s7 : Same H5 H7 := But.same s6 b7 nDs
    have gD7 := s7 _ _ gD0
    have hp7 := Same.tup (s4.trans (s5.trans s7)) hp4
    have sB : Same H H7 := sA.trans (s4.trans (s5.trans s7))
    refine ⟨_, rfl, Ds, xs, rfl, lst_of gDs, fun ns e pm asc ne => ?_⟩
    have nnd : ns.Nodup := pm.nodup_iff.mpr xnd
    have nlen : ns.length = xs.length := pm.length_eq
    have nin : ∀ u v : Int, v * v = ev (fL a b c d) u → u ∈ ns := fun u v h => pm.mem_iff.mpr (hin u v h)
    have nb : ∀ u ∈ ns, u.natAbs ≤ 600000 := fun u hu => xb u (pm.mem_iff.mp hu)
    have s8 := Same.new (o := .lst (ns.map V.int)) ne
    have ge : (upd H7 e (.lst (ns.map V.int))) e = some (.lst (ns.map V.int)) := upd_same
    generalize upd H7 e (.lst (ns.map V.int)) = H8 at s8 ge ⊢
    refine ⟨e, rfl, ⟨_, lst_of ge⟩, for_list (K := K) (a := e) (xs := ns.map V.int) (fun i σ H9 => Same H8 H9 ∧ ∃ (D : Addr) (ts : List V) (ps : List (Int × Int)) (v1 v2 v3 : Option V), σ = [some (.ref p), some (.int q1), some (.int q0), some (.int (l : Int)), some (.ref D), some (.ref Ds), v1, v2, v3] ∧ H9 D = some (.lst ts) ∧ PA H9 ts ps ∧ ps.Pairwise Lt ∧ (∀ u v : Int, (u, v) ∈ ps ↔ u ∈ ns.take i ∧ v * v = ev (fL a b c d) u) ∧ ps.length ≤ 2 * i) ⟨Same.refl _, D0, [], [], none, none, none, rfl, s8 _ _ gD7, .nil, List.Pairwise.nil, (by simp), Nat.le_refl _⟩ (fun i σ H9 _ z => lst_of (z.1 _ _ ge)) ?_ ?_⟩
    · rintro i x σ H9 hi ⟨s9, D, ts, ps, v1, v2, v3, rfl, gD, pa, ho, hm, len⟩
      obtain ⟨x, hx, rfl⟩ := map_int hi
      have iN : i < ns.length := (List.getElem?_eq_some_iff.mp hx).1
      have xa := nb x (List.mem_of_getElem? hx)
      have xB : B 20 x := by
        unfold Gd.B
        omega
      first | refine sigN [some (.ref p), some (.int (q1)), some (.int (q0)), some (.int ((l : Int))), some (.ref D), some (.ref Ds), some (.int (x)), v2, v3] (by rfl) ?_ | refine sig [some (.ref p), some (.int (q1)), some (.int (q0)), some (.int ((l : Int))), some (.ref D), some (.ref Ds), some (.int (x)), v2, v3] (by rfl) ?_
      refine ⟨_, rfl, _, rfl, p, a, b, c, d, x, rfl, Same.tup (s8.trans s9) hp7, h4, xB, ?_⟩
      obtain ⟨n, hn⟩ : ∃ n, ev (fL a b c d) x = n := ⟨_, rfl⟩
      first | refine sigN [some (.ref p), some (.int (q1)), some (.int (q0)), some (.int ((l : Int))), some (.ref D), some (.ref Ds), some (.int (x)), some (.int (ev (fL a b c d) x)), v3] (by rfl) ?_ | refine sig [some (.ref p), some (.int (q1)), some (.int (q0)), some (.int ((l : Int))), some (.ref D), some (.ref Ds), some (.int (x)), some (.int (ev (fL a b c d) x)), v3] (by rfl) ?_
      rw [hn]
      have nB : B 90 n := by
        have bB : B 6 b := by
          have := h4.hb
          unfold Gd.B
          omega
        have cB : B 8 c := by
          have := h4.hc
          unfold Gd.B
          omega
        have dB : B 10 d := by
          have := h4.hd
          unfold Gd.B
          omega
        rw [← hn, K50M.evL]
        have u2 := xB.mul xB
        have u3 := u2.mul xB
        have u4 := u3.mul xB
        have t1 := ((aB.mul xB).mul xB).mul xB
        have t2 := (bB.mul xB).mul xB
        have t3 := cB.mul xB
        exact ((((u4.add t1).add t2).add t3).add dB).up (by decide)
      have lower : ∀ {qs : List (Int × Int)}, At (fL a b c d) x qs → (ps ++ qs).Pairwise Lt ∧ (∀ u v : Int, (u, v) ∈ ps ++ qs ↔ u ∈ ns.take (i + 1) ∧ v * v = ev (fL a b c d) u) ∧ (ps ++ qs).length ≤ 2 * (i + 1) := by
        intro qs h
        refine ⟨List.pairwise_append.mpr ⟨ho, h.ord, ?_⟩, fun u v => ?_, ?_⟩
        · rintro ⟨u1, w1⟩ m1 ⟨u2, w2⟩ m2
          have e1 := ((hm _ _).mp m1).1
          have e2 := ((h.mem _ _).mp m2).1
          left
          show u1 < u2
          obtain ⟨k, hk⟩ := List.mem_iff_getElem?.mp e1
          have ki : k < i := by
            have := (List.getElem?_eq_some_iff.mp hk).1
            rw [List.length_take] at this
            omega
          rw [List.getElem?_take_of_lt ki] at hk
          obtain ⟨z1, y1⟩ := List.getElem?_eq_some_iff.mp hk
          obtain ⟨z2, y2⟩ := List.getElem?_eq_some_iff.mp hx
          have a1 := List.pairwise_iff_getElem.mp asc k i z1 z2 ki
          have a2 := List.pairwise_iff_getElem.mp nnd k i z1 z2 ki
          rw [y1, y2] at a1 a2
          omega
        · rw [List.mem_append, hm, h.mem, List.take_succ, hx, List.mem_append]
          constructor
          · rintro (⟨m1, m2⟩ | ⟨rfl, m2⟩)
            · exact ⟨Or.inl m1, m2⟩
            · exact ⟨Or.inr (by simp), m2⟩
          · rintro ⟨m1 | m1, m2⟩
            · exact Or.inl ⟨m1, m2⟩
            · have : u = x := by simpa using m1
              subst this
              exact Or.inr ⟨rfl, m2⟩
        · rw [List.length_append]
          have := h.len
          omega
      have nope : (¬ ∃ r : Int, r * r = n) → ∀ (H10 : Hp) (v3 : Option V), Same H9 H10 → Same H8 H10 ∧ ∃ (D' : Addr) (ts : List V) (ps : List (Int × Int)) (v1 v2 v3' : Option V), [some (V.ref p), some (.int q1), some (.int q0), some (.int (l : Int)), some (.ref D), some (.ref Ds), some (.int x), some (.int n), v3] = [some (.ref p), some (.int q1), some (.int q0), some (.int (l : Int)), some (.ref D'), some (.ref Ds), v1, v2, v3'] ∧ H10 D' = some (.lst ts) ∧ PA H10 ts ps ∧ ps.Pairwise Lt ∧ (∀ u v : Int, (u, v) ∈ ps ↔ u ∈ ns.take (i + 1) ∧ v * v = ev (fL a b c d) u) ∧ ps.length ≤ 2 * (i + 1) := by
        intro no H10 v3 s10
        have := lower (At.none (f := fL a b c d) (x := x) (by rw [hn]; exact no))
        rw [List.append_nil] at this
        exact ⟨s9.trans s10, D, ts, ps, _, _, _, rfl, s10 _ _ gD, pa.same s10, this⟩
      refine ⟨_, rfl, _, _, rfl, rfl, _, rfl, ?_⟩
      by_cases n0 : 0 ≤ n
      · refine iteY (decide_eq_true n0) ?_
        refine ⟨_, rfl, n, rfl, n0, nB.up (by decide), fun H10 r s10 r0' r1' r2' => ?_⟩
        have rB : r.natAbs < 2 ^ 64 := by
          refine Nat.lt_of_not_le fun z => ?_
          have hz : (2 : Int) ^ 64 ≤ r := by omega
          have := Int.mul_le_mul hz hz (by decide) (by omega)
          have e : (2 : Int) ^ 64 * 2 ^ 64 = 2 ^ 128 := by decide
          have nn : n < 2 ^ 90 := by
            unfold Gd.B at nB
            omega
          have : (2 : Int) ^ 90 < 2 ^ 128 := by decide
          omega
        refine ⟨_, _, rfl, rfl, ⟨by decide, by decide, rB⟩, _, rfl, rfl, _, rfl, ?_⟩
        rw [dec_int]
        have e2 : r ^ (2 : Int).toNat = r * r := by
          show r ^ 2 = r * r
          grind
        rw [e2]
        by_cases hr2 : r * r = n
        · refine iteY (by simpa using hr2) ?_
          refine ⟨_, rfl, n, rfl, n0, nB.up (by decide), fun H11 y s11 y0 y1 y2 => ?_⟩
          have ey : y = r := by
            have a1 : y ≤ r := Int.not_lt.mp fun z => by
              have := Int.mul_le_mul (show r + 1 ≤ y by omega) (show r + 1 ≤ y by omega) (by omega) (by omega)
              omega
            have a2 : r ≤ y := Int.not_lt.mp fun z => by
              have := Int.mul_le_mul (show y + 1 ≤ r by omega) (show y + 1 ≤ r by omega) (by omega) (by omega)
              omega
            omega
          subst ey
          first | refine sigN [some (.ref p), some (.int (q1)), some (.int (q0)), some (.int ((l : Int))), some (.ref D), some (.ref Ds), some (.int (x)), some (.int (n)), some (.int (y))] (by rfl) ?_ | refine sig [some (.ref p), some (.int (q1)), some (.int (q0)), some (.int ((l : Int))), some (.ref D), some (.ref Ds), some (.int (x)), some (.int (n)), some (.int (y))] (by rfl) ?_
          have g11 := (s10.trans s11) _ _ gD
          have pa11 := pa.same (s10.trans s11)
          have sC := s9.trans (s10.trans s11)
          refine ⟨_, rfl, _, rfl, rfl, _, rfl, ?_⟩
          rw [dec_int]
          by_cases hy : y = 0
          · refine iteY (by simpa using hy) ?_
            have at0 := lower (At.zero (f := fL a b c d) (x := x) (by rw [hn, ← hr2, hy]; rfl))
            refine ⟨_, rfl, (by show 2 ≤ sizeLine; decide), fun w1 nw1 => ?_⟩
            have s12 := Same.new (H := H11) (p := w1) (o := .tup [.int x, .int 0]) nw1
            have g12 : upd H11 w1 (.tup [.int x, .int 0]) w1 = some (.tup [.int x, .int 0]) := upd_same
            generalize upd H11 w1 (.tup [.int x, .int 0]) = H12 at s12 g12 ⊢
            refine ⟨(by show 1 ≤ sizeLine; decide), fun l2 nl2 => ?_⟩
            have s13 := Same.new (H := H12) (p := l2) (o := .lst [.ref w1]) nl2
            have gl2 : upd H12 l2 (.lst [.ref w1]) l2 = some (.lst [.ref w1]) := upd_same
            generalize upd H12 l2 (.lst [.ref w1]) = H13 at s13 gl2 ⊢
            refine ⟨D, l2, _, _, rfl, rfl, (s12.trans s13) _ _ g11, gl2, Nat.le_trans (show ts.length + 1 ≤ 3000000 by rw [pa.len]; omega) (by decide), fun D2 nD2 => ?_⟩
            have s14 := Same.new (o := .lst (ts ++ [.ref w1])) nD2
            have sD := s12.trans (s13.trans s14)
            exact ⟨sC.trans sD, D2, _, _, _, _, _, rfl, upd_same, (pa11.same sD).app (.cons ((s13.trans s14) _ _ g12) .nil), at0⟩
          · refine iteN (by simpa using hy) ?_
            have at2 := lower (At.two (f := fL a b c d) (x := x) (y := y) (by rw [hn, ← hr2]) (by omega))
            refine ⟨_, rfl, _, rfl, _, rfl, (by show 2 ≤ sizeLine; decide), fun w1 nw1 => ?_⟩
            have s12 := Same.new (H := H11) (p := w1) (o := .tup [.int x, .int (-y)]) nw1
            have g12 : upd H11 w1 (.tup [.int x, .int (-y)]) w1 = some (.tup [.int x, .int (-y)]) := upd_same
            generalize upd H11 w1 (.tup [.int x, .int (-y)]) = H12 at s12 g12 ⊢
            refine ⟨_, rfl, _, rfl, (by show 2 ≤ sizeLine; decide), fun w2 nw2 => ?_⟩
            have s12b := Same.new (H := H12) (p := w2) (o := .tup [.int x, .int y]) nw2
            have g12b : upd H12 w2 (.tup [.int x, .int y]) w2 = some (.tup [.int x, .int y]) := upd_same
            generalize upd H12 w2 (.tup [.int x, .int y]) = H12b at s12b g12b ⊢
            refine ⟨(by show 2 ≤ sizeLine; decide), fun l2 nl2 => ?_⟩
            have s13 := Same.new (H := H12b) (p := l2) (o := .lst [.ref w1, .ref w2]) nl2
            have gl2 : upd H12b l2 (.lst [.ref w1, .ref w2]) l2 = some (.lst [.ref w1, .ref w2]) := upd_same
            generalize upd H12b l2 (.lst [.ref w1, .ref w2]) = H13 at s13 gl2 ⊢
            refine ⟨D, l2, _, _, rfl, rfl, (s12.trans (s12b.trans s13)) _ _ g11, gl2, Nat.le_trans (show ts.length + 2 ≤ 3000000 by rw [pa.len]; omega) (by decide), fun D2 nD2 => ?_⟩
            have s14 := Same.new (o := .lst (ts ++ [.ref w1, .ref w2])) nD2
            have sD := s12.trans (s12b.trans (s13.trans s14))
            exact ⟨sC.trans sD, D2, _, _, _, _, _, rfl, upd_same, (pa11.same sD).app (.cons ((s12b.trans (s13.trans s14)) _ _ g12) (.cons ((s13.trans s14) _ _ g12b) .nil)), at2⟩
        · refine iteN (by simpa using hr2) ?_
          refine nope (fun ⟨y, hy⟩ => hr2 ?_) H10 v3 s10
          have h1 : (y.natAbs : Int) * y.natAbs = n := by rw [Int.natAbs_mul_self' y]; exact hy
          have a1 : (y.natAbs : Int) ≤ r := Int.not_lt.mp fun z => by
            have := Int.mul_le_mul (show r + 1 ≤ (y.natAbs : Int) by omega) (show r + 1 ≤ (y.natAbs : Int) by omega) (by omega) (by omega)
            omega
          have := Int.mul_le_mul a1 a1 (by omega) (by omega)
          omega
      · refine iteN (by simpa using n0) ?_
        exact nope (fun ⟨y, hy⟩ => by have := sq_nn y; omega) H9 v3 (Same.refl _)
    · rintro σ H9 ⟨s9, D, ts, ps, v1, v2, v3, rfl, gD, pa, ho, hm, len⟩
      rw [List.length_map, List.take_length] at hm
      refine ⟨_, rfl, D, ts, rfl, .inl ⟨lst_of gD, fun tp ntp => ?_⟩⟩
      have s10 := Same.new (o := .tup ts) ntp
      refine ⟨(by show 2 ≤ sizeLine; decide), fun r nr => ?_⟩
      have s11 := Same.new (o := .tup [.str "all", .ref tp]) nr
      refine q _ r (.tuple [.str "all", .tuple (dps ps)]) (sB.trans (s8.trans (s9.trans (s10.trans s11)))) (.tup (tup_of upd_same) (.cons (.str _) (.cons (.tup (tup_of (s11 _ _ upd_same)) (pa.same (s10.trans s11)).dp) .nil))) ⟨fun a b => (nz ⟨a, b⟩).elim, fun _ => ⟨ps, rfl, ho, fun u v => (hm u v).trans ⟨fun z => z.2, fun z => ⟨nin u v z, z⟩⟩⟩⟩
end
end K50
set_option Elab.async false
set_option linter.all false
set_option maxRecDepth 100000
set_option maxHeartbeats 4000000
namespace K50
open PySem PySem.Spec PyProof.Rows L2 Gd QM SvM K45M PaM
open K51M (Lt sq_nn strict uniq)
open K50M (fL rest r1 r0 slope last runge limit_ok reach_ok root_one six)
section
variable {P : Program} {w : World} {K : PySem.W.Frag} {mg : Str → Option Value} {base : Heap}
def sp_law_drawn (K : PySem.W.Frag) : Sp := fun vs H Q _ => ∃ (m cl : Addr) (n : Nat), vs = [.ref m] ∧ n ≤ 1000 ∧ MAt H m cl n ∧ ∀ H' f a b c d, But m H H' → MAt H' m cl (n + 20) → SqT K H' f (fV a b c d) → S4 a b c d → Q (.ref f) H'
abbrev s__law_drawn : Stmt := topS 29
theorem sc__law_drawn : FnScope ["m", "p", "q", "way", "a", "b", "c", "d", "k", "e"] ["m"] (defScope s__law_drawn) := ⟨rfl, rfl, rfl, by decide +kernel, rfl, by decide +kernel, by decide +kernel⟩
theorem k_law_drawn (T : Tx K mg) (D : Df K mg "_law_drawn" s__law_drawn ["m"]) (c_law_between : Kl P w K mg base 2 "_law_between" (sp_law_between K)) (c_law_draw : Kl P w K mg base 1 "_law_draw" (sp_law_draw K)) (c_law_of : Kl P w K mg base 2 "_law_of" (sp_law_of K)) : Kl P w K mg base 3 "_law_drawn" (sp_law_drawn K) := by
  have nd := sc__law_drawn.nd
  refine Kl.by_body D sc__law_drawn (fun vs H Q E h => ?_) (fun f cdv A outer s H vs Q E hr h => ?_)
  · obtain ⟨_, _, _, rfl, _⟩ := h
    rfl
  · obtain ⟨m, cl, n, rfl, hn, hM, q⟩ := h
    have hu1 := hu_of hr
    refine ⟨_, (pss_cons (ps_par3 (i := 1) (j := 2) (l := 3) (by rfl) nd rfl rfl rfl (by decide) (by decide) (by decide) rfl rfl rfl (pa_cons (pe_k c_law_between  hr (by decide) (by rfl) (pa_cons (pv 0) (pa_cons pe_int pa_nil))) (pa_cons (pe_k c_law_between  hr (by decide) (by rfl) (pa_cons (pv 0) (pa_cons pe_int pa_nil))) (pa_cons (pe_k c_law_draw  hr (by decide) (by rfl) (pa_cons (pv 0) (pa_cons pe_int pa_nil))) pa_nil))) (by rfl))
      (pss_cons (ps_asg (pe_tup (pa_cons (pe_op op_mul pe_int (pv 1)) (pa_cons (pe_op op_add (pe_op op_mulW (pv 1) (pv 1)) (pe_op op_mul pe_int (pv 2))) (pa_cons (pe_op op_mulW (pe_op op_mul pe_int (pv 1)) (pv 2)) (pa_cons (pe_op op_mulW (pv 2) (pv 2)) pa_nil))))) (pg_tup rfl (pgs_cons (pg_name (i := 4) nd rfl (by first | exact Or.inl rfl | exact Or.inr rfl)) (pgs_cons (pg_name (i := 5) nd rfl (by first | exact Or.inl rfl | exact Or.inr rfl)) (pgs_cons (pg_name (i := 6) nd rfl (by first | exact Or.inl rfl | exact Or.inr rfl)) (pgs_cons (pg_name (i := 7) nd rfl (by first | exact Or.inl rfl | exact Or.inr rfl)) pgs_nil))))))
      (pss_cons (ps_par (i := 8) (j := 9) (by rfl) nd rfl rfl (by decide) rfl rfl (pa_cons (pe_k c_law_of  hr (by decide) (by rfl) (pa_cons (pv 0) (pa_cons (pe_lst (pa_cons pe_int (pa_cons (pe_un un_neg pe_int) (pa_cons pe_int (pa_cons pe_int (pa_cons pe_int (pa_cons (pe_un un_neg pe_int) (pa_cons pe_int pa_nil)))))))) pa_nil))) (pa_cons (pe_k c_law_between  hr (by decide) (by rfl) (pa_cons (pv 0) (pa_cons pe_int pa_nil))) pa_nil)) (by rfl))
      (pss_cons (ps_if (pt_cmpR op_eq (pv 3) pe_int (nomark _)) (pss_one (ps_ret (pe_tup (pa_cons (pv 4) (pa_cons (pv 5) (pa_cons (pv 6) (pa_cons (pv 7) pa_nil))))))) pss_nil)
      (pss_cons (ps_if (pt_cmpR op_eq (pv 3) pe_int (nomark _)) (pss_one (ps_ret (pe_tup (pa_cons (pv 4) (pa_cons (pv 5) (pa_cons (pe_op op_add (pv 6) (pv 8)) (pa_cons (pe_op op_sub (pv 7) (pe_op op_mulW (pv 8) (pv 9))) pa_nil))))))) pss_nil)
      (pss_cons (ps_if (pt_cmpR op_eq (pv 3) pe_int (nomark _)) (pss_one (ps_ret (pe_tup (pa_cons (pv 4) (pa_cons (pv 5) (pa_cons (pv 6) (pa_cons (pe_op op_add (pv 7) (pe_k c_law_of  hr (by decide) (by rfl) (pa_cons (pv 0) (pa_cons (pe_lst (pa_cons (pv 8) (pa_cons pe_int (pa_cons (pe_un un_neg pe_int) (pa_cons pe_int (pa_cons (pe_k c_law_between  hr (by decide) (by rfl) (pa_cons (pv 0) (pa_cons pe_int pa_nil))) pa_nil)))))) pa_nil)))) pa_nil))))))) pss_nil)
      (pss_cons (ps_if (pt_cmpR op_eq (pv 3) pe_int (nomark _)) (pss_one (ps_ret (pe_tup (pa_cons (pe_k c_law_between  hr (by decide) (by rfl) (pa_cons (pv 0) (pa_cons pe_int pa_nil))) (pa_cons (pe_k c_law_between  hr (by decide) (by rfl) (pa_cons (pv 0) (pa_cons pe_int pa_nil))) (pa_cons (pe_k c_law_between  hr (by decide) (by rfl) (pa_cons (pv 0) (pa_cons pe_int pa_nil))) (pa_cons (pe_k c_law_between  hr (by decide) (by rfl) (pa_cons (pv 0) (pa_cons pe_int pa_nil))) pa_nil))))))) pss_nil)
      (pss_one (ps_ret (pe_tup (pa_cons (pe_op op_add (pv 4) pe_int) (pa_cons (pv 5) (pa_cons (pe_op op_add (pv 6) (pe_k c_law_between  hr (by decide) (by rfl) (pa_cons (pv 0) (pa_cons pe_int pa_nil)))) (pa_cons (pe_op op_add (pv 7) (pe_k c_law_between  hr (by decide) (by rfl) (pa_cons (pv 0) (pa_cons pe_int pa_nil)))) pa_nil)))))))))))))), ?_⟩
    refine ⟨_, rfl, m, cl, 5, _, rfl, by decide, by decide, by omega, hM, fun H2 p b2 m2 p0 p1 => ?_⟩
    refine ⟨_, rfl, m, cl, 12, _, rfl, by decide, by decide, by omega, m2, fun H3 r b3 m3 r0 r1 => ?_⟩
    refine ⟨_, rfl, m, cl, 5, _, rfl, by decide, by decide, by omega, m3, fun H4 way b4 m4 w0 w1 => ⟨_, _, _, rfl, ?_⟩⟩
    first | refine sigN [some (.ref m), some (.int (p)), some (.int (r)), some (.int (way)), none, none, none, none, none, none] (by rfl) ?_ | refine sig [some (.ref m), some (.int (p)), some (.int (r)), some (.int (way)), none, none, none, none, none, none] (by rfl) ?_
    have pB : B 3 p := by
      unfold Gd.B
      omega
    have rB : B 4 r := by
      unfold Gd.B
      omega
    have pp : (p * p).natAbs ≤ 25 := by
      rw [Int.natAbs_mul]
      exact Nat.mul_le_mul (show p.natAbs ≤ 5 by omega) (show p.natAbs ≤ 5 by omega)
    have rr : (r * r).natAbs ≤ 144 := by
      rw [Int.natAbs_mul]
      exact Nat.mul_le_mul (show r.natAbs ≤ 12 by omega) (show r.natAbs ≤ 12 by omega)
    have pr : (2 * p * r).natAbs ≤ 120 := by
      rw [Int.natAbs_mul]
      exact Nat.mul_le_mul (show (2 * p).natAbs ≤ 10 by omega) (show r.natAbs ≤ 12 by omega)
    refine ⟨_, rfl, _, _, rfl, rfl, (Or.inl ⟨by decide, by decide⟩), _, rfl, _, rfl, _, _, rfl, rfl, pB.mulW pB (by decide), _, rfl, _, _, rfl, rfl, (Or.inl ⟨by decide, by decide⟩), _, _, rfl, rfl, _, rfl, _, _, rfl, rfl, (Or.inl ⟨by decide, by decide⟩), _, rfl, _, _, rfl, rfl, ((B.lit (n := 2) (by decide)).mul pB).mulW rB (by decide), _, rfl, _, rfl, _, _, rfl, rfl, rB.mulW rB (by decide), (by show 4 ≤ sizeLine; decide), fun t nt => ?_⟩
    have s5 := Same.new (H := H4) (p := t) (o := .tup [.int (2 * p), .int (p * p + 2 * r), .int (2 * p * r), .int (r * r)]) nt
    have g5 : upd H4 t (.tup [.int (2 * p), .int (p * p + 2 * r), .int (2 * p * r), .int (r * r)]) t = some (.tup [.int (2 * p), .int (p * p + 2 * r), .int (2 * p * r), .int (r * r)]) := upd_same
    generalize upd H4 t (.tup [.int (2 * p), .int (p * p + 2 * r), .int (2 * p * r), .int (r * r)]) = H5 at s5 g5 ⊢
    refine ⟨t, _, rfl, tup_of g5, rfl, _, _, rfl, _, _, rfl, _, _, rfl, _, _, rfl, rfl, ?_⟩
    first | refine sigN [some (.ref m), some (.int (p)), some (.int (r)), some (.int (way)), some (.int (2 * p)), some (.int (p * p + 2 * r)), some (.int (2 * p * r)), some (.int (r * r)), none, none] (by rfl) ?_ | refine sig [some (.ref m), some (.int (p)), some (.int (r)), some (.int (way)), some (.int (2 * p)), some (.int (p * p + 2 * r)), some (.int (2 * p * r)), some (.int (r * r)), none, none] (by rfl) ?_
    have m5 := m4.same s5
    refine ⟨_, rfl, _, rfl, _, rfl, (by show 7 ≤ sizeLine; decide), fun l nl => ?_⟩
    have s6 := Same.new (o := .lst [.int 1, .int (-1), .int 2, .int 3, .int 8, .int (-5), .int 16]) nl
    refine ⟨m, cl, l, [.int 1, .int (-1), .int 2, .int 3, .int 8, .int (-5), .int 16], _, rfl, lst_of upd_same, by show 0 < 7; decide, by show 7 ≤ 1000; decide, by omega, m5.same s6, fun H7 k b7 m7 hk => ?_⟩
    obtain ⟨k, rfl, hk2⟩ : ∃ y : Int, k = .int y ∧ y.natAbs ≤ 16 := by
      simp only [List.mem_cons, List.not_mem_nil, or_false] at hk
      rcases hk with rfl | rfl | rfl | rfl | rfl | rfl | rfl <;> exact ⟨_, rfl, by decide⟩
    refine ⟨_, rfl, m, cl, 30, _, rfl, by decide, by decide, by omega, m7, fun H8 e b8 m8 e0 e1 => ⟨_, _, rfl, ?_⟩⟩
    first | refine sigN [some (.ref m), some (.int (p)), some (.int (r)), some (.int (way)), some (.int (2 * p)), some (.int (p * p + 2 * r)), some (.int (2 * p * r)), some (.int (r * r)), some (.int (k)), some (.int (e))] (by rfl) ?_ | refine sig [some (.ref m), some (.int (p)), some (.int (r)), some (.int (way)), some (.int (2 * p)), some (.int (p * p + 2 * r)), some (.int (2 * p * r)), some (.int (r * r)), some (.int (k)), some (.int (e))] (by rfl) ?_
    have bA : But m H H8 := b2.trans (b3.trans (b4.trans ((But.of (s5.trans s6)).trans (b7.trans b8))))
    have ke : (k * e).natAbs ≤ 480 := by
      rw [Int.natAbs_mul]
      exact Nat.mul_le_mul hk2 (show e.natAbs ≤ 30 by omega)
    have kB : B 5 k := by
      unfold Gd.B
      omega
    have eB : B 5 e := by
      unfold Gd.B
      omega
    clear b2 b3 b4 s5 s6 b7 b8 g5 m5 m7 hM m2 m3 m4
    generalize p * p = u2 at pp ⊢
    generalize r * r = v2 at rr ⊢
    generalize 2 * p * r = w2 at pr ⊢
    refine ⟨_, rfl, rfl, _, rfl, ite2 (fun _ => ?_) (fun _ => ?_)⟩
    · refine ⟨_, rfl, _, rfl, _, rfl, _, rfl, (by show 4 ≤ sizeLine; decide), fun f nf => ?_⟩
      have s9 := Same.new (o := .tup (fV (2 * p) (u2 + 2 * r) w2 v2)) nf
      exact q _ f _ _ _ _ (bA.trans (But.of s9)) ((m8.same s9).up (by omega)) (tup_of upd_same) ⟨by omega, by omega, by omega, by omega⟩
    refine ⟨_, rfl, rfl, _, rfl, ite2 (fun _ => ?_) (fun _ => ?_)⟩
    · refine ⟨_, rfl, _, rfl, _, rfl, _, rfl, _, _, rfl, rfl, _, rfl, _, rfl, _, rfl, _, _, rfl, rfl, kB.mulW eB (by decide), _, _, rfl, rfl, (by show 4 ≤ sizeLine; decide), fun f nf => ?_⟩
      have s9 := Same.new (o := .tup (fV (2 * p) (u2 + 2 * r) (w2 + k) (v2 - k * e))) nf
      exact q _ f _ _ _ _ (bA.trans (But.of s9)) ((m8.same s9).up (by omega)) (tup_of upd_same) ⟨by omega, by omega, by omega, by omega⟩
    refine ⟨_, rfl, rfl, _, rfl, ite2 (fun _ => ?_) (fun _ => ?_)⟩
    · refine ⟨_, rfl, _, rfl, _, rfl, _, rfl, _, rfl, _, rfl, _, rfl, _, rfl, m, cl, 200, _, rfl, by decide, by decide, by omega, m8, fun H9 z b9 m9 z0 z1 => ?_⟩
      refine ⟨(by show 5 ≤ sizeLine; decide), fun l nl => ?_⟩
      have s10 := Same.new (o := .lst [.int k, .int 1, .int (-1), .int 4, .int z]) nl
      refine ⟨m, cl, l, [.int k, .int 1, .int (-1), .int 4, .int z], _, rfl, lst_of upd_same, by show 0 < 5; decide, by show 5 ≤ 1000; decide, by omega, m9.same s10, fun H11 y b11 m11 hy => ?_⟩
      obtain ⟨y, rfl, hy⟩ : ∃ y' : Int, y = .int y' ∧ y'.natAbs ≤ 200 := by
        simp only [List.mem_cons, List.not_mem_nil, or_false] at hy
        rcases hy with rfl | rfl | rfl | rfl | rfl
        · exact ⟨_, rfl, by omega⟩
        · exact ⟨_, rfl, by decide⟩
        · exact ⟨_, rfl, by decide⟩
        · exact ⟨_, rfl, by decide⟩
        · exact ⟨_, rfl, by omega⟩
      refine ⟨_, _, rfl, rfl, (by show 4 ≤ sizeLine; decide), fun f nf => ?_⟩
      have s9 := Same.new (o := .tup (fV (2 * p) (u2 + 2 * r) w2 (v2 + y))) nf
      exact q _ f _ _ _ _ (bA.trans (b9.trans ((But.of s10).trans (b11.trans (But.of s9))))) ((m11.same s9).up (by omega)) (tup_of upd_same) ⟨by omega, by omega, by omega, by omega⟩
    refine ⟨_, rfl, rfl, _, rfl, ite2 (fun _ => ?_) (fun _ => ?_)⟩
    · refine ⟨_, rfl, m, cl, 7, _, rfl, by decide, by decide, by omega, m8, fun H9 y1 b9 m9 y10 y11 => ?_⟩
      refine ⟨_, rfl, m, cl, 15, _, rfl, by decide, by decide, by omega, m9, fun H10 y2 b10 m10 y20 y21 => ?_⟩
      refine ⟨_, rfl, m, cl, 15, _, rfl, by decide, by decide, by omega, m10, fun H11 y3 b11 m11 y30 y31 => ?_⟩
      refine ⟨_, rfl, m, cl, 60, _, rfl, by decide, by decide, by omega, m11, fun H12 y4 b12 m12 y40 y41 => ?_⟩
      refine ⟨(by show 4 ≤ sizeLine; decide), fun f nf => ?_⟩
      have s9 := Same.new (o := .tup (fV y1 y2 y3 y4)) nf
      exact q _ f _ _ _ _ (bA.trans (b9.trans (b10.trans (b11.trans (b12.trans (But.of s9)))))) ((m12.same s9).up (by omega)) (tup_of upd_same) ⟨by omega, by omega, by omega, by omega⟩
    · refine ⟨_, rfl, _, _, rfl, rfl, _, rfl, _, rfl, _, rfl, m, cl, 9, _, rfl, by decide, by decide, by omega, m8, fun H9 y1 b9 m9 y10 y11 => ⟨_, _, rfl, rfl, ?_⟩⟩
      refine ⟨_, rfl, _, rfl, m, cl, 9, _, rfl, by decide, by decide, by omega, m9, fun H10 y2 b10 m10 y20 y21 => ⟨_, _, rfl, rfl, (by show 4 ≤ sizeLine; decide), fun f nf => ?_⟩⟩
      have s9 := Same.new (o := .tup (fV (2 * p + 1) (u2 + 2 * r) (w2 + y1) (v2 + y2))) nf
      exact q _ f _ _ _ _ (bA.trans (b9.trans (b10.trans (But.of s9)))) ((m10.same s9).up (by omega)) (tup_of upd_same) ⟨by omega, by omega, by omega, by omega⟩
/-! ### the law -/
def sp_law (K : PySem.W.Frag) : Sp := fun vs H Q _ => ∃ (a : Addr) (ns : List Int), vs = [.ref a] ∧ SqL K H a (ns.map V.int) ∧ ns.length ≤ 63 ∧ ∀ H', Q (.bl true) H'
theorem okk_up : True := trivial
abbrev s_law : Stmt := topS 30
theorem sc_law : FnScope ["script", "k", "m", "f", "due", "told"] ["script"] (defScope s_law) := ⟨rfl, rfl, rfl, by decide +kernel, rfl, by decide +kernel, by decide +kernel⟩
theorem k_law {fl : Addr} {fdl : FuncData} (T : Tx K mg) (Fl : Fun K "law" "law" s_law fl fdl) (c_law_begun : Kl P w K mg base 1 "_law_begun" (sp_law_begun K)) (c_law_drawn : Kl P w K mg base 3 "_law_drawn" (sp_law_drawn K)) (c_quartic_points : Kl P w K mg base 4 "quartic_points" (sp_quartic_points K)) (c_law_due : Kl P w K mg base 3 "_law_due" (sp_law_due K)) : FnG P w K mg base 5 fl fdl ["script"] (sp_law K) := by
  have nd := sc_law.nd
  refine FnG.by_body Fl sc_law (fun vs H Q E h => ?_) (fun cdv A outer s H vs Q E hgd hr h => ?_)
  · obtain ⟨_, _, rfl, _⟩ := h
    rfl
  · obtain ⟨a, ns, rfl, hx, hl, q⟩ := h
    have hu1 := hu_of hr
    refine ⟨_, (pss_cons (ps_for PassesOwn.never rfl (pi_range1 (by rfl) T.range (pa_cons (pe_op op_add pe_int (pe_callB (call_min2 rfl) (by rfl) T.min (by decide +kernel) (pa_cons (pe_callB call_len_seq (by rfl) T.len (by decide +kernel) (pa_cons (pv 0) pa_nil)) (pa_cons pe_int pa_nil)))) pa_nil)) (pg_name (i := 1) nd rfl (by first | exact Or.inl rfl | exact Or.inr rfl)) (pss_cons (ps_set (i := 2) nd rfl (by first | exact Or.inl rfl | exact Or.inr rfl) (pe_k c_law_begun  hr (by decide) (by rfl) (pa_cons (pv 0) (pa_cons (pv 1) pa_nil))))
      (pss_cons (ps_set (i := 3) nd rfl (by first | exact Or.inl rfl | exact Or.inr rfl) (pe_k c_law_drawn  hr (by decide) (by rfl) (pa_cons (pv 2) pa_nil)))
      (pss_one (ps_if (PW.pt (pw_and (pt_cmpR op_le (pe_callB call_abs (by rfl) T.abs (by decide +kernel) (pa_cons (pe_ix ix_tup (pv 3) pe_int (fun _ _ => rfl)) pa_nil)) (pe_op op_pow pe_int pe_int) (nomark _)) (pw_and (pt_cmpR op_le (pe_callB (call_max2 rfl) (by rfl) T.max (by decide +kernel) (pa_cons (pe_callB call_abs (by rfl) T.abs (by decide +kernel) (pa_cons (pe_ix ix_tup (pv 3) pe_int (fun _ _ => rfl)) pa_nil)) (pa_cons (pe_callB call_abs (by rfl) T.abs (by decide +kernel) (pa_cons (pe_ix ix_tup (pv 3) pe_int (fun _ _ => rfl)) pa_nil)) pa_nil))) pe_int (nomark _)) (pw_and1 (pt_cmpR op_le (pe_callB call_abs (by rfl) T.abs (by decide +kernel) (pa_cons (pe_ix ix_tup (pv 3) pe_int (fun _ _ => rfl)) pa_nil)) pe_int (nomark _)))))) (pss_one (ps_if (pt_cmpR op_ne (pe_callB (PaM.call_reprK hgd hr.units) (by rfl) T.repr (by decide +kernel) (pa_cons (pe_k c_quartic_points  hr (by decide) (by rfl) (pa_cons (pe_ix ix_tup (pv 3) pe_int (fun _ _ => rfl)) (pa_cons (pe_ix ix_tup (pv 3) pe_int (fun _ _ => rfl)) (pa_cons (pe_ix ix_tup (pv 3) pe_int (fun _ _ => rfl)) (pa_cons (pe_ix ix_tup (pv 3) pe_int (fun _ _ => rfl)) pa_nil))))) pa_nil)) (pe_callB (PaM.call_reprK hgd hr.units) (by rfl) T.repr (by decide +kernel) (pa_cons (pe_k c_law_due  hr (by decide) (by rfl) (pa_cons (pv 3) pa_nil)) pa_nil)) (nomark _)) (pss_one (ps_ret pe_bl)) pss_nil)) pss_nil)))))
      (pss_cons (ps_set (i := 4) nd rfl (by first | exact Or.inl rfl | exact Or.inr rfl) (pe_tup (pa_cons pe_str (pa_cons (pe_tup (pa_cons (pe_tup (pa_cons (pe_un un_neg pe_int) (pa_cons (pe_un un_neg pe_int) pa_nil))) (pa_cons (pe_tup (pa_cons (pe_un un_neg pe_int) (pa_cons pe_int pa_nil))) (pa_cons (pe_tup (pa_cons pe_int (pa_cons (pe_un un_neg pe_int) pa_nil))) (pa_cons (pe_tup (pa_cons pe_int (pa_cons pe_int pa_nil))) (pa_cons (pe_tup (pa_cons pe_int (pa_cons (pe_un un_neg pe_int) pa_nil))) (pa_cons (pe_tup (pa_cons pe_int (pa_cons pe_int pa_nil))) pa_nil))))))) pa_nil))))
      (pss_cons (ps_set (i := 5) nd rfl (by first | exact Or.inl rfl | exact Or.inr rfl) (pe_lst (pa_cons (pe_k c_quartic_points  hr (by decide) (by rfl) (pa_cons pe_int (pa_cons pe_int (pa_cons pe_int (pa_cons pe_int pa_nil))))) (pa_cons (pe_k c_quartic_points  hr (by decide) (by rfl) (pa_cons pe_int (pa_cons pe_int (pa_cons pe_int (pa_cons pe_int pa_nil))))) pa_nil))))
      (pss_one (ps_ret (pe_cmpR op_eq (pe_callB (PaM.call_reprK hgd hr.units) (by rfl) T.repr (by decide +kernel) (pa_cons (pv 5) pa_nil)) (pe_callB (PaM.call_reprK hgd hr.units) (by rfl) T.repr (by decide +kernel) (pa_cons (pe_lst (pa_cons (pv 4) (pa_cons (pe_tup (pa_cons pe_str (pa_cons (pe_tup (pa_cons pe_int (pa_cons pe_int (pa_cons pe_int pa_nil)))) pa_nil))) pa_nil))) pa_nil)) (nomark _))))))), ?_⟩
    obtain ⟨j, hj, j0, j1⟩ : ∃ j : Int, (4 : Int) + (if (2 : Int) < ((ns.map V.int).length : Int) then 2 else ((ns.map V.int).length : Int)) = j ∧ 0 ≤ j ∧ j ≤ 6 := ⟨_, rfl, by split <;> omega, by split <;> omega⟩
    refine ⟨.ref a, rfl, a, _, rfl, .inl hx, _, _, rfl, _, _, rfl, rfl, j, ?_, by omega, by omega, ?_⟩
    · rw [← hj]
    refine for_range (lo := 0) (n := j.toNat) (fun i σ H2 => Same H H2 ∧ ∃ v1 v2 v3 : Option V, σ = [some (.ref a), v1, v2, v3, none, none]) ⟨Same.refl _, none, none, none, rfl⟩ ?_ ?_
    · rintro i σ H2 hi ⟨s2, v1, v2, v3, rfl⟩
      refine ⟨.ref a, rfl, _, rfl, a, _, ns, rfl, s2.seq hx, hl, by omega, by omega, fun H3 m cl s3 nm ncl hM => ?_⟩
      first | refine sigN [some (.ref a), some (.int (0 + (i : Int))), some (.ref m), v3, none, none] (by rfl) ?_ | refine sig [some (.ref a), some (.int (0 + (i : Int))), some (.ref m), v3, none, none] (by rfl) ?_
      refine ⟨.ref m, rfl, m, cl, 0, rfl, by decide, hM, fun H4 f a' b' c' d' b4 m4 hf h4 => ?_⟩
      first | refine sigN [some (.ref a), some (.int (0 + (i : Int))), some (.ref m), some (.ref f), none, none] (by rfl) ?_ | refine sig [some (.ref a), some (.int (0 + (i : Int))), some (.ref m), some (.ref f), none, none] (by rfl) ?_
      have ok4 : ∀ {H5 : Hp}, Same H4 H5 → Same H H5 ∧ ∃ v1 v2 v3 : Option V, [some (V.ref a), some (.int (0 + (i : Int))), some (.ref m), some (.ref f), none, none] = [some (.ref a), v1, v2, v3, none, none] := fun s => ⟨s2.trans (But.same s3 (b4.trans (But.of s)) nm), _, _, _, rfl⟩
      refine ⟨_, rfl, f, _, 3, _, rfl, rfl, hf, rfl, _, rfl, _, _, rfl, rfl, ⟨by decide, by decide, by decide⟩, _, _, rfl, rfl, _, rfl, ite2 (fun _ => ?_) (fun _ => ?_)⟩
      · refine ⟨_, rfl, f, _, 1, _, rfl, rfl, hf, rfl, _, rfl, _, rfl, f, _, 2, _, rfl, rfl, hf, rfl, _, rfl, _, _, rfl, _, _, rfl, rfl, _, rfl, ite2 (fun _ => ?_) (fun _ => ?_)⟩
        · refine ⟨_, rfl, f, _, 0, _, rfl, rfl, hf, rfl, _, rfl, _, _, rfl, rfl, _, rfl, ite2 (fun _ => ?_) (fun _ => ?_)⟩
          · refine ⟨_, rfl, f, _, 0, _, rfl, rfl, hf, rfl, _, rfl, f, _, 1, _, rfl, rfl, hf, rfl, _, rfl, f, _, 2, _, rfl, rfl, hf, rfl, _, rfl, f, _, 3, _, rfl, rfl, hf, rfl, a', b', c', d', rfl, h4, fun H5 t D s5 dp gd ok dep wt5 => ?_⟩
            refine ⟨.ref t, D, 64, rfl, dp, by decide, by decide, ok, by omega, by omega, ?_⟩
            refine ⟨_, rfl, f, a', b', c', d', rfl, Same.tup s5 hf, h4, fun H6 t2 D2 s6 dp2 gd2 => ?_⟩
            obtain rfl := gd.one gd2
            refine ⟨.ref t2, D, 64, rfl, dp2, by decide, by decide, ok, by omega, by omega, rfl, _, rfl, ?_⟩
            refine iteN (by simp) ?_
            exact ok4 (s5.trans s6)
          · exact ok4 (Same.refl _)
        · exact ok4 (Same.refl _)
      · exact ok4 (Same.refl _)
    · rintro σ H2 ⟨s2, v1, v2, v3, rfl⟩
      refine ⟨_, rfl, _, rfl, (by show 2 ≤ sizeLine; decide), fun t1 n1 => ⟨_, rfl, (by show 2 ≤ sizeLine; decide), fun t2 n2 => ⟨_, rfl, (by show 2 ≤ sizeLine; decide), fun t3 n3 => ⟨(by show 2 ≤ sizeLine; decide), fun t4 n4 => ⟨_, rfl, (by show 2 ≤ sizeLine; decide), fun t5 n5 => ⟨(by show 2 ≤ sizeLine; decide), fun t6 n6 => ⟨(by show 6 ≤ sizeLine; decide), fun t7 n7 => ⟨(by show 2 ≤ sizeLine; decide), fun t8 n8 => ?_⟩⟩⟩⟩⟩⟩⟩⟩
      have a7 := Same.new (o := .tup [.str "all", .ref t7]) n8
      have a6 := (Same.new (o := .tup [.ref t1, .ref t2, .ref t3, .ref t4, .ref t5, .ref t6]) n7).trans a7
      have a5 := (Same.new (o := .tup [.int 2, .int 5]) n6).trans a6
      have a4 := (Same.new (o := .tup [.int 2, .int (-5)]) n5).trans a5
      have a3 := (Same.new (o := .tup [.int 0, .int 1]) n4).trans a4
      have a2 := (Same.new (o := .tup [.int 0, .int (-1)]) n3).trans a3
      have a1 := (Same.new (o := .tup [.int (-2), .int 3]) n2).trans a2
      have a0 := (Same.new (o := .tup [.int (-2), .int (-3)]) n1).trans a1
      have pa : PA _ [.ref t1, .ref t2, .ref t3, .ref t4, .ref t5, .ref t6] six := .cons (a1 _ _ upd_same) (.cons (a2 _ _ upd_same) (.cons (a3 _ _ upd_same) (.cons (a4 _ _ upd_same) (.cons (a5 _ _ upd_same) (.cons (a6 _ _ upd_same) .nil)))))
      have g7 := a7 _ _ (upd_same (o := .tup [.ref t1, .ref t2, .ref t3, .ref t4, .ref t5, .ref t6]))
      have due : Dp K _ (.ref t8) (.tuple [.str "all", .tuple (dps six)]) := .tup (tup_of upd_same) (.cons (.str _) (.cons (.tup (tup_of g7) pa.dp) .nil))
      refine ⟨0, 0, 4, 1, rfl, ⟨by decide, by decide, by decide, by decide⟩, fun H5 u1 D1 s5 dp1 gd1 ok1 dep1 wt1 => ?_⟩
      refine ⟨2, 3, 2, 1, rfl, ⟨by decide, by decide, by decide, by decide⟩, fun H6 u2 D2 s6 dp2 gd2 ok2 dep2 wt2 => ?_⟩
      obtain ⟨ps, e1, o1, m1⟩ := gd1.al (by decide)
      obtain rfl : ps = six := uniq o1 K50M.six_ord fun p => (m1 p.1 p.2).trans (K50M.six_mem p.1 p.2).symm
      have e2 := gd2.sq rfl rfl
      subst e1
      subst e2
      refine ⟨(by show 2 ≤ sizeLine; decide), fun l nl => ?_⟩
      have s7 := Same.new (H := H6) (p := l) (o := .lst [.ref u1, .ref u2]) nl
      have gl : upd H6 l (.lst [.ref u1, .ref u2]) l = some (.lst [.ref u1, .ref u2]) := upd_same
      generalize upd H6 l (.lst [.ref u1, .ref u2]) = H7 at s7 gl ⊢
      obtain ⟨k1, k2, k3⟩ : okk 64 (.list [.tuple [.str "all", .tuple (dps six)], .tuple [.str "square", .tuple [.int 8, .int (4 * 2), .int (rest 2 3)]]]) = true ∧ (PyData.list [.tuple [.str "all", .tuple (dps six)], .tuple [.str "square", .tuple [.int 8, .int (4 * 2), .int (rest 2 3)]]]).depth ≤ 40 ∧ wtk 64 (.list [.tuple [.str "all", .tuple (dps six)], .tuple [.str "square", .tuple [.int 8, .int (4 * 2), .int (rest 2 3)]]]) ≤ 16000000 := by decide +kernel
      refine ⟨_, rfl, .ref l, .list [.tuple [.str "all", .tuple (dps six)], .tuple [.str "square", .tuple [.int 8, .int (4 * 2), .int (rest 2 3)]]], 64, rfl, .lst (lst_of gl) (.cons (dp_same (s6.trans s7) dp1) (.cons (dp_same s7 dp2) .nil)), by decide, by decide, k1, k2, k3, ?_⟩
      refine ⟨_, rfl, (by show 3 ≤ sizeLine; decide), fun w1 m1 => ?_⟩
      have s8 := Same.new (H := H7) (p := w1) (o := .tup [.int 8, .int 8, .int 8]) m1
      have g8 : upd H7 w1 (.tup [.int 8, .int 8, .int 8]) w1 = some (.tup [.int 8, .int 8, .int 8]) := upd_same
      generalize upd H7 w1 (.tup [.int 8, .int 8, .int 8]) = H8 at s8 g8 ⊢
      refine ⟨(by show 2 ≤ sizeLine; decide), fun w2 m2 => ?_⟩
      have s9 := Same.new (H := H8) (p := w2) (o := .tup [.str "square", .ref w1]) m2
      have g9 : upd H8 w2 (.tup [.str "square", .ref w1]) w2 = some (.tup [.str "square", .ref w1]) := upd_same
      generalize upd H8 w2 (.tup [.str "square", .ref w1]) = H9 at s9 g9 ⊢
      refine ⟨(by show 2 ≤ sizeLine; decide), fun l2 nl2 => ?_⟩
      have s10 := Same.new (H := H9) (p := l2) (o := .lst [.ref t8, .ref w2]) nl2
      have gl2 : upd H9 l2 (.lst [.ref t8, .ref w2]) l2 = some (.lst [.ref t8, .ref w2]) := upd_same
      generalize upd H9 l2 (.lst [.ref t8, .ref w2]) = H10 at s10 gl2 ⊢
      refine ⟨.ref l2, .list [.tuple [.str "all", .tuple (dps six)], .tuple [.str "square", .tuple [.int 8, .int (4 * 2), .int (rest 2 3)]]], 64, rfl, .lst (lst_of gl2) (.cons (dp_same (s5.trans (s6.trans (s7.trans (s8.trans (s9.trans s10))))) due) (.cons (.tup (tup_of (s10 _ _ g9)) (.cons (.str _) (.cons (.tup (tup_of ((s9.trans s10) _ _ g8)) (.cons (.int _) (.cons (.int _) (.cons (.int _) .nil)))) .nil))) .nil)), by decide, by decide, k1, k2, k3, rfl, ?_⟩
      generalize (PyData.list [.tuple [.str "all", .tuple (dps six)], .tuple [.str "square", .tuple [.int 8, .int (4 * 2), .int (rest 2 3)]]]).shown = zz
      rw [decide_eq_true (rfl : V.str zz = V.str zz)]
      exact q _
end
end K50
set_option Elab.async false
set_option linter.all false
set_option maxRecDepth 100000
set_option maxHeartbeats 4000000
namespace K50
open PySem PySem.Spec PyProof.Rows L2 Gd
theorem all_mk {P : Program} {w : World} {K : PySem.W.Frag} {h : Heap} {mg : Str → Option Value} {fa : Addr} (X : K.In h) (G : h.Ns mainGlobals mg) (hfa : mg "law" = some (.ref fa))
    {f2 : Addr} {od2 an2 : Option Addr} {sl2 : Array (Option Value)} {oc2 kV2 dc2 pm2 cd2 ct2 : Value}
    {f3 : Addr} {od3 an3 : Option Addr} {sl3 : Array (Option Value)} {oc3 kV3 dc3 pm3 cd3 ct3 : Value}
    {f5 : Addr} {od5 an5 : Option Addr} {sl5 : Array (Option Value)} {oc5 kV5 dc5 pm5 cd5 ct5 : Value}
    {f6 : Addr} {od6 an6 : Option Addr} {sl6 : Array (Option Value)} {oc6 kV6 dc6 pm6 cd6 ct6 : Value}
    {f9 : Addr} {od9 an9 : Option Addr} {sl9 : Array (Option Value)} {oc9 kV9 dc9 pm9 cd9 ct9 : Value}
    {f10 : Addr} {od10 an10 : Option Addr} {sl10 : Array (Option Value)} {oc10 kV10 dc10 pm10 cd10 ct10 : Value}
    {f11 : Addr} {od11 an11 : Option Addr} {sl11 : Array (Option Value)} {oc11 kV11 dc11 pm11 cd11 ct11 : Value}
    {f12 : Addr} {od12 an12 : Option Addr} {sl12 : Array (Option Value)} {oc12 kV12 dc12 pm12 cd12 ct12 : Value}
    {f14 : Addr} {od14 an14 : Option Addr} {sl14 : Array (Option Value)} {oc14 kV14 dc14 pm14 cd14 ct14 : Value}
    {f15 : Addr} {od15 an15 : Option Addr} {sl15 : Array (Option Value)} {oc15 kV15 dc15 pm15 cd15 ct15 : Value}
    {f17 : Addr} {od17 an17 : Option Addr} {sl17 : Array (Option Value)} {oc17 kV17 dc17 pm17 cd17 ct17 : Value}
    {f18 : Addr} {od18 an18 : Option Addr} {sl18 : Array (Option Value)} {oc18 kV18 dc18 pm18 cd18 ct18 : Value}
    {f20 : Addr} {od20 an20 : Option Addr} {sl20 : Array (Option Value)} {oc20 kV20 dc20 pm20 cd20 ct20 : Value}
    {f21 : Addr} {od21 an21 : Option Addr} {sl21 : Array (Option Value)} {oc21 kV21 dc21 pm21 cd21 ct21 : Value}
    {f22 : Addr} {od22 an22 : Option Addr} {sl22 : Array (Option Value)} {oc22 kV22 dc22 pm22 cd22 ct22 : Value}
    {f23 : Addr} {od23 an23 : Option Addr} {sl23 : Array (Option Value)} {oc23 kV23 dc23 pm23 cd23 ct23 : Value}
    {f24 : Addr} {od24 an24 : Option Addr} {sl24 : Array (Option Value)} {oc24 kV24 dc24 pm24 cd24 ct24 : Value}
    {f25 : Addr} {od25 an25 : Option Addr} {sl25 : Array (Option Value)} {oc25 kV25 dc25 pm25 cd25 ct25 : Value}
    {f26 : Addr} {od26 an26 : Option Addr} {sl26 : Array (Option Value)} {oc26 kV26 dc26 pm26 cd26 ct26 : Value}
    {f27 : Addr} {od27 an27 : Option Addr} {sl27 : Array (Option Value)} {oc27 kV27 dc27 pm27 cd27 ct27 : Value}
    {f28 : Addr} {od28 an28 : Option Addr} {sl28 : Array (Option Value)} {oc28 kV28 dc28 pm28 cd28 ct28 : Value}
    {f29 : Addr} {od29 an29 : Option Addr} {sl29 : Array (Option Value)} {oc29 kV29 dc29 pm29 cd29 ct29 : Value}
    {f30 : Addr} {od30 an30 : Option Addr} {sl30 : Array (Option Value)} {oc30 kV30 dc30 pm30 cd30 ct30 : Value}
    {aT_MODULI : Addr} {odT_MODULI : Option Addr} {nT_MODULI : Nat} {slT_MODULI : Array (Option Value)} {uT_MODULI_0 uT_MODULI_1 uT_MODULI_2 uT_MODULI_3 uT_MODULI_4 uT_MODULI_5 uT_MODULI_6 uT_MODULI_7 uT_MODULI_8 uT_MODULI_9 : Tok}
    (a2 : PySem.W.nsIn K mainGlobals "root" = some (some (.ref f2))) (l2 : K.lookup f2 = some ⟨oc2, od2, .func (PySem.W.fnOf "root" "root" (defArgs s_root) (defBody s_root) (defScope s_root) .none kV2 dc2 pm2 an2 cd2 ct2), sl2⟩) (c2 : PySem.W.codeIn K cd2 "root" = true) (k2 : PySem.W.keepIn K (.ref f2) = true)
    (a3 : PySem.W.nsIn K mainGlobals "is_square" = some (some (.ref f3))) (l3 : K.lookup f3 = some ⟨oc3, od3, .func (PySem.W.fnOf "is_square" "is_square" (defArgs s_is_square) (defBody s_is_square) (defScope s_is_square) .none kV3 dc3 pm3 an3 cd3 ct3), sl3⟩) (c3 : PySem.W.codeIn K cd3 "is_square" = true) (k3 : PySem.W.keepIn K (.ref f3) = true)
    (a5 : PySem.W.nsIn K mainGlobals "value_whole" = some (some (.ref f5))) (l5 : K.lookup f5 = some ⟨oc5, od5, .func (PySem.W.fnOf "value_whole" "value_whole" (defArgs s_value_whole) (defBody s_value_whole) (defScope s_value_whole) .none kV5 dc5 pm5 an5 cd5 ct5), sl5⟩) (c5 : PySem.W.codeIn K cd5 "value_whole" = true) (k5 : PySem.W.keepIn K (.ref f5) = true)
    (a6 : PySem.W.nsIn K mainGlobals "value_over" = some (some (.ref f6))) (l6 : K.lookup f6 = some ⟨oc6, od6, .func (PySem.W.fnOf "value_over" "value_over" (defArgs s_value_over) (defBody s_value_over) (defScope s_value_over) .none kV6 dc6 pm6 an6 cd6 ct6), sl6⟩) (c6 : PySem.W.codeIn K cd6 "value_over" = true) (k6 : PySem.W.keepIn K (.ref f6) = true)
    (a9 : PySem.W.nsIn K mainGlobals "square_digits" = some (some (.ref f9))) (l9 : K.lookup f9 = some ⟨oc9, od9, .func (PySem.W.fnOf "square_digits" "square_digits" (defArgs s_square_digits) (defBody s_square_digits) (defScope s_square_digits) .none kV9 dc9 pm9 an9 cd9 ct9), sl9⟩) (c9 : PySem.W.codeIn K cd9 "square_digits" = true) (k9 : PySem.W.keepIn K (.ref f9) = true)
    (a10 : PySem.W.nsIn K mainGlobals "repeated" = some (some (.ref f10))) (l10 : K.lookup f10 = some ⟨oc10, od10, .func (PySem.W.fnOf "repeated" "repeated" (defArgs s_repeated) (defBody s_repeated) (defScope s_repeated) .none kV10 dc10 pm10 an10 cd10 ct10), sl10⟩) (c10 : PySem.W.codeIn K cd10 "repeated" = true) (k10 : PySem.W.keepIn K (.ref f10) = true)
    (a11 : PySem.W.nsIn K mainGlobals "places_left" = some (some (.ref f11))) (l11 : K.lookup f11 = some ⟨oc11, od11, .func (PySem.W.fnOf "places_left" "places_left" (defArgs s_places_left) (defBody s_places_left) (defScope s_places_left) .none kV11 dc11 pm11 an11 cd11 ct11), sl11⟩) (c11 : PySem.W.codeIn K cd11 "places_left" = true) (k11 : PySem.W.keepIn K (.ref f11) = true)
    (a12 : PySem.W.nsIn K mainGlobals "places_of" = some (some (.ref f12))) (l12 : K.lookup f12 = some ⟨oc12, od12, .func (PySem.W.fnOf "places_of" "places_of" (defArgs s_places_of) (defBody s_places_of) (defScope s_places_of) .none kV12 dc12 pm12 an12 cd12 ct12), sl12⟩) (c12 : PySem.W.codeIn K cd12 "places_of" = true) (k12 : PySem.W.keepIn K (.ref f12) = true)
    (a14 : PySem.W.nsIn K mainGlobals "points_at_whole" = some (some (.ref f14))) (l14 : K.lookup f14 = some ⟨oc14, od14, .func (PySem.W.fnOf "points_at_whole" "points_at_whole" (defArgs s_points_at_whole) (defBody s_points_at_whole) (defScope s_points_at_whole) .none kV14 dc14 pm14 an14 cd14 ct14), sl14⟩) (c14 : PySem.W.codeIn K cd14 "points_at_whole" = true) (k14 : PySem.W.keepIn K (.ref f14) = true)
    (a15 : PySem.W.nsIn K mainGlobals "square_places" = some (some (.ref f15))) (l15 : K.lookup f15 = some ⟨oc15, od15, .func (PySem.W.fnOf "square_places" "square_places" (defArgs s_square_places) (defBody s_square_places) (defScope s_square_places) .none kV15 dc15 pm15 an15 cd15 ct15), sl15⟩) (c15 : PySem.W.codeIn K cd15 "square_places" = true) (k15 : PySem.W.keepIn K (.ref f15) = true)
    (a17 : PySem.W.nsIn K mainGlobals "look_limit" = some (some (.ref f17))) (l17 : K.lookup f17 = some ⟨oc17, od17, .func (PySem.W.fnOf "look_limit" "look_limit" (defArgs s_look_limit) (defBody s_look_limit) (defScope s_look_limit) .none kV17 dc17 pm17 an17 cd17 ct17), sl17⟩) (c17 : PySem.W.codeIn K cd17 "look_limit" = true) (k17 : PySem.W.keepIn K (.ref f17) = true)
    (a18 : PySem.W.nsIn K mainGlobals "quartic_points" = some (some (.ref f18))) (l18 : K.lookup f18 = some ⟨oc18, od18, .func (PySem.W.fnOf "quartic_points" "quartic_points" (defArgs s_quartic_points) (defBody s_quartic_points) (defScope s_quartic_points) .none kV18 dc18 pm18 an18 cd18 ct18), sl18⟩) (c18 : PySem.W.codeIn K cd18 "quartic_points" = true) (k18 : PySem.W.keepIn K (.ref f18) = true)
    (a20 : PySem.W.nsIn K mainGlobals "_law_begun" = some (some (.ref f20))) (l20 : K.lookup f20 = some ⟨oc20, od20, .func (PySem.W.fnOf "_law_begun" "_law_begun" (defArgs s__law_begun) (defBody s__law_begun) (defScope s__law_begun) .none kV20 dc20 pm20 an20 cd20 ct20), sl20⟩) (c20 : PySem.W.codeIn K cd20 "_law_begun" = true) (k20 : PySem.W.keepIn K (.ref f20) = true)
    (a21 : PySem.W.nsIn K mainGlobals "_law_draw" = some (some (.ref f21))) (l21 : K.lookup f21 = some ⟨oc21, od21, .func (PySem.W.fnOf "_law_draw" "_law_draw" (defArgs s__law_draw) (defBody s__law_draw) (defScope s__law_draw) .none kV21 dc21 pm21 an21 cd21 ct21), sl21⟩) (c21 : PySem.W.codeIn K cd21 "_law_draw" = true) (k21 : PySem.W.keepIn K (.ref f21) = true)
    (a22 : PySem.W.nsIn K mainGlobals "_law_of" = some (some (.ref f22))) (l22 : K.lookup f22 = some ⟨oc22, od22, .func (PySem.W.fnOf "_law_of" "_law_of" (defArgs s__law_of) (defBody s__law_of) (defScope s__law_of) .none kV22 dc22 pm22 an22 cd22 ct22), sl22⟩) (c22 : PySem.W.codeIn K cd22 "_law_of" = true) (k22 : PySem.W.keepIn K (.ref f22) = true)
    (a23 : PySem.W.nsIn K mainGlobals "_law_between" = some (some (.ref f23))) (l23 : K.lookup f23 = some ⟨oc23, od23, .func (PySem.W.fnOf "_law_between" "_law_between" (defArgs s__law_between) (defBody s__law_between) (defScope s__law_between) .none kV23 dc23 pm23 an23 cd23 ct23), sl23⟩) (c23 : PySem.W.codeIn K cd23 "_law_between" = true) (k23 : PySem.W.keepIn K (.ref f23) = true)
    (a24 : PySem.W.nsIn K mainGlobals "_law_root" = some (some (.ref f24))) (l24 : K.lookup f24 = some ⟨oc24, od24, .func (PySem.W.fnOf "_law_root" "_law_root" (defArgs s__law_root) (defBody s__law_root) (defScope s__law_root) .none kV24 dc24 pm24 an24 cd24 ct24), sl24⟩) (c24 : PySem.W.codeIn K cd24 "_law_root" = true) (k24 : PySem.W.keepIn K (.ref f24) = true)
    (a25 : PySem.W.nsIn K mainGlobals "_law_value" = some (some (.ref f25))) (l25 : K.lookup f25 = some ⟨oc25, od25, .func (PySem.W.fnOf "_law_value" "_law_value" (defArgs s__law_value) (defBody s__law_value) (defScope s__law_value) .none kV25 dc25 pm25 an25 cd25 ct25), sl25⟩) (c25 : PySem.W.codeIn K cd25 "_law_value" = true) (k25 : PySem.W.keepIn K (.ref f25) = true)
    (a26 : PySem.W.nsIn K mainGlobals "_law_rest" = some (some (.ref f26))) (l26 : K.lookup f26 = some ⟨oc26, od26, .func (PySem.W.fnOf "_law_rest" "_law_rest" (defArgs s__law_rest) (defBody s__law_rest) (defScope s__law_rest) .none kV26 dc26 pm26 an26 cd26 ct26), sl26⟩) (c26 : PySem.W.codeIn K cd26 "_law_rest" = true) (k26 : PySem.W.keepIn K (.ref f26) = true)
    (a27 : PySem.W.nsIn K mainGlobals "_law_reach" = some (some (.ref f27))) (l27 : K.lookup f27 = some ⟨oc27, od27, .func (PySem.W.fnOf "_law_reach" "_law_reach" (defArgs s__law_reach) (defBody s__law_reach) (defScope s__law_reach) .none kV27 dc27 pm27 an27 cd27 ct27), sl27⟩) (c27 : PySem.W.codeIn K cd27 "_law_reach" = true) (k27 : PySem.W.keepIn K (.ref f27) = true)
    (a28 : PySem.W.nsIn K mainGlobals "_law_due" = some (some (.ref f28))) (l28 : K.lookup f28 = some ⟨oc28, od28, .func (PySem.W.fnOf "_law_due" "_law_due" (defArgs s__law_due) (defBody s__law_due) (defScope s__law_due) .none kV28 dc28 pm28 an28 cd28 ct28), sl28⟩) (c28 : PySem.W.codeIn K cd28 "_law_due" = true) (k28 : PySem.W.keepIn K (.ref f28) = true)
    (a29 : PySem.W.nsIn K mainGlobals "_law_drawn" = some (some (.ref f29))) (l29 : K.lookup f29 = some ⟨oc29, od29, .func (PySem.W.fnOf "_law_drawn" "_law_drawn" (defArgs s__law_drawn) (defBody s__law_drawn) (defScope s__law_drawn) .none kV29 dc29 pm29 an29 cd29 ct29), sl29⟩) (c29 : PySem.W.codeIn K cd29 "_law_drawn" = true) (k29 : PySem.W.keepIn K (.ref f29) = true)
    (a30 : PySem.W.nsIn K mainGlobals "law" = some (some (.ref f30))) (l30 : K.lookup f30 = some ⟨oc30, od30, .func (PySem.W.fnOf "law" "law" (defArgs s_law) (defBody s_law) (defScope s_law) .none kV30 dc30 pm30 an30 cd30 ct30), sl30⟩) (c30 : PySem.W.codeIn K cd30 "law" = true) (k30 : PySem.W.keepIn K (.ref f30) = true)
    (z_isqrt : PySem.W.nsIn K mainGlobals "isqrt" = some (some (.builtin "math.isqrt")))
    (z_int : PySem.W.nsIn K mainGlobals "int" = some none)
    (z_len : PySem.W.nsIn K mainGlobals "len" = some none)
    (z_tuple : PySem.W.nsIn K mainGlobals "tuple" = some none)
    (z_abs : PySem.W.nsIn K mainGlobals "abs" = some none)
    (z_range : PySem.W.nsIn K mainGlobals "range" = some none)
    (z_reversed : PySem.W.nsIn K mainGlobals "reversed" = some none)
    (z_list : PySem.W.nsIn K mainGlobals "list" = some none)
    (z_sorted : PySem.W.nsIn K mainGlobals "sorted" = some none)
    (z_min : PySem.W.nsIn K mainGlobals "min" = some none)
    (z_max : PySem.W.nsIn K mainGlobals "max" = some none)
    (z_repr : PySem.W.nsIn K mainGlobals "repr" = some none)
    (z_MODULI : PySem.W.nsIn K mainGlobals "MODULI" = some (some (.ref aT_MODULI))) (w_MODULI : K.lookup aT_MODULI = some ⟨.type "tuple", odT_MODULI, .seq #[.int (16) uT_MODULI_0, .int (9) uT_MODULI_1, .int (5) uT_MODULI_2, .int (7) uT_MODULI_3, .int (11) uT_MODULI_4, .int (13) uT_MODULI_5, .int (17) uT_MODULI_6, .int (19) uT_MODULI_7, .int (23) uT_MODULI_8, .int (29) uT_MODULI_9] nT_MODULI, slT_MODULI⟩)
    : ∃ fd : FuncData, (∀ (s : Shared) (v : Value), BindsTo s fd ⟨[v], []⟩ [("script", v)]) ∧ ∀ base : Heap, K.In base → base.Ns mainGlobals mg → FnG P w K mg base 5 fa fd ["script"] (sp_law K) := by
  have T : Tx K mg := ⟨PySem.W.mg_of X G z_isqrt, PySem.W.mg_none_of X G z_int, PySem.W.mg_none_of X G z_len, PySem.W.mg_none_of X G z_tuple, PySem.W.mg_none_of X G z_abs, PySem.W.mg_none_of X G z_range, PySem.W.mg_none_of X G z_reversed, PySem.W.mg_none_of X G z_list, PySem.W.mg_none_of X G z_sorted, PySem.W.mg_none_of X G z_min, PySem.W.mg_none_of X G z_max, PySem.W.mg_none_of X G z_repr, ⟨_, ⟨_, PySem.W.mg_of X G z_MODULI, rfl⟩, fun _ => Or.inr ⟨_, _, _, w_MODULI, rfl, rfl, (by show 10 ≤ sizeLine; decide), (.cons ⟨_, rfl⟩ (.cons ⟨_, rfl⟩ (.cons ⟨_, rfl⟩ (.cons ⟨_, rfl⟩ (.cons ⟨_, rfl⟩ (.cons ⟨_, rfl⟩ (.cons ⟨_, rfl⟩ (.cons ⟨_, rfl⟩ (.cons ⟨_, rfl⟩ (.cons ⟨_, rfl⟩ .nil))))))))))⟩⟩⟩
  have d2 : Df K mg "root" s_root ["n"] := df_mk X G a2 l2 c2 k2 (fun _ _ _ _ _ _ us hl => match us, hl with | [_], _ => rfl)
  have d3 : Df K mg "is_square" s_is_square ["n"] := df_mk X G a3 l3 c3 k3 (fun _ _ _ _ _ _ us hl => match us, hl with | [_], _ => rfl)
  have d5 : Df K mg "value_whole" s_value_whole ["f", "x"] := df_mk X G a5 l5 c5 k5 (fun _ _ _ _ _ _ us hl => match us, hl with | [_, _], _ => rfl)
  have d6 : Df K mg "value_over" s_value_over ["f", "x", "m"] := df_mk X G a6 l6 c6 k6 (fun _ _ _ _ _ _ us hl => match us, hl with | [_, _, _], _ => rfl)
  have d9 : Df K mg "square_digits" s_square_digits ["q"] := df_mk X G a9 l9 c9 k9 (fun _ _ _ _ _ _ us hl => match us, hl with | [_], _ => rfl)
  have d10 : Df K mg "repeated" s_repeated ["kept", "length"] := df_mk X G a10 l10 c10 k10 (fun _ _ _ _ _ _ us hl => match us, hl with | [_, _], _ => rfl)
  have d11 : Df K mg "places_left" s_places_left ["tables", "at", "length"] := df_mk X G a11 l11 c11 k11 (fun _ _ _ _ _ _ us hl => match us, hl with | [_, _, _], _ => rfl)
  have d12 : Df K mg "places_of" s_places_of ["row"] := df_mk X G a12 l12 c12 k12 (fun _ _ _ _ _ _ us hl => match us, hl with | [_], _ => rfl)
  have d14 : Df K mg "points_at_whole" s_points_at_whole ["f", "x"] := df_mk X G a14 l14 c14 k14 (fun _ _ _ _ _ _ us hl => match us, hl with | [_, _], _ => rfl)
  have d15 : Df K mg "square_places" s_square_places ["f", "B"] := df_mk X G a15 l15 c15 k15 (fun _ _ _ _ _ _ us hl => match us, hl with | [_, _], _ => rfl)
  have d17 : Df K mg "look_limit" s_look_limit ["a", "rest", "r1", "r0"] := df_mk X G a17 l17 c17 k17 (fun _ _ _ _ _ _ us hl => match us, hl with | [_, _, _, _], _ => rfl)
  have d18 : Df K mg "quartic_points" s_quartic_points ["a", "b", "c", "d"] := df_mk X G a18 l18 c18 k18 (fun _ _ _ _ _ _ us hl => match us, hl with | [_, _, _, _], _ => rfl)
  have d20 : Df K mg "_law_begun" s__law_begun ["script", "k"] := df_mk X G a20 l20 c20 k20 (fun _ _ _ _ _ _ us hl => match us, hl with | [_, _], _ => rfl)
  have d21 : Df K mg "_law_draw" s__law_draw ["m", "below"] := df_mk X G a21 l21 c21 k21 (fun _ _ _ _ _ _ us hl => match us, hl with | [_, _], _ => rfl)
  have d22 : Df K mg "_law_of" s__law_of ["m", "some"] := df_mk X G a22 l22 c22 k22 (fun _ _ _ _ _ _ us hl => match us, hl with | [_, _], _ => rfl)
  have d23 : Df K mg "_law_between" s__law_between ["m", "size"] := df_mk X G a23 l23 c23 k23 (fun _ _ _ _ _ _ us hl => match us, hl with | [_, _], _ => rfl)
  have d24 : Df K mg "_law_root" s__law_root ["n"] := df_mk X G a24 l24 c24 k24 (fun _ _ _ _ _ _ us hl => match us, hl with | [_], _ => rfl)
  have d25 : Df K mg "_law_value" s__law_value ["f", "x"] := df_mk X G a25 l25 c25 k25 (fun _ _ _ _ _ _ us hl => match us, hl with | [_, _], _ => rfl)
  have d26 : Df K mg "_law_rest" s__law_rest ["f"] := df_mk X G a26 l26 c26 k26 (fun _ _ _ _ _ _ us hl => match us, hl with | [_], _ => rfl)
  have d27 : Df K mg "_law_reach" s__law_reach ["f"] := df_mk X G a27 l27 c27 k27 (fun _ _ _ _ _ _ us hl => match us, hl with | [_], _ => rfl)
  have d28 : Df K mg "_law_due" s__law_due ["f"] := df_mk X G a28 l28 c28 k28 (fun _ _ _ _ _ _ us hl => match us, hl with | [_], _ => rfl)
  have d29 : Df K mg "_law_drawn" s__law_drawn ["m"] := df_mk X G a29 l29 c29 k29 (fun _ _ _ _ _ _ us hl => match us, hl with | [_], _ => rfl)
  refine law_fd X G hfa a30 l30 c30 k30 (fun _ _ _ _ _ _ us hl => match us, hl with | [_], _ => rfl) (fun fd F base => ?_)
  have c_root := k_root (P := P) (w := w) (base := base) T d2 
  have c_is_square := k_is_square (P := P) (w := w) (base := base) T d3 
  have c_value_whole := k_value_whole (P := P) (w := w) (base := base) T d5 
  have c_value_over := k_value_over (P := P) (w := w) (base := base) T d6 
  have c_square_digits := k_square_digits (P := P) (w := w) (base := base) T d9 
  have c_repeated := k_repeated (P := P) (w := w) (base := base) T d10 
  have c_places_of := k_places_of (P := P) (w := w) (base := base) T d12 
  have c_law_begun := k_law_begun (P := P) (w := w) (base := base) T d20 
  have c_law_draw := k_law_draw (P := P) (w := w) (base := base) T d21 
  have c_law_root := k_law_root (P := P) (w := w) (base := base) T d24 
  have c_law_value := k_law_value (P := P) (w := w) (base := base) T d25 
  have c_law_rest := k_law_rest (P := P) (w := w) (base := base) T d26 
  have c_places_left := k_places_left (P := P) (w := w) (base := base) T d11 c_places_of
  have c_points_at_whole := k_points_at_whole (P := P) (w := w) (base := base) T d14 c_value_whole c_root c_is_square
  have c_look_limit := k_look_limit (P := P) (w := w) (base := base) T d17 c_root
  have c_law_of := k_law_of (P := P) (w := w) (base := base) T d22 c_law_draw
  have c_law_between := k_law_between (P := P) (w := w) (base := base) T d23 c_law_draw
  have c_law_reach := k_law_reach (P := P) (w := w) (base := base) T d27 c_law_rest
  have c_square_places := k_square_places (P := P) (w := w) (base := base) T d15 c_places_left c_square_digits c_points_at_whole c_repeated c_value_over
  have c_law_due := k_law_due (P := P) (w := w) (base := base) T d28 c_law_rest c_law_reach c_law_value c_law_root
  have c_law_drawn := k_law_drawn (P := P) (w := w) (base := base) T d29 c_law_between c_law_draw c_law_of
  have c_quartic_points := k_quartic_points (P := P) (w := w) (base := base) T d18 c_look_limit c_square_places c_points_at_whole
  exact k_law T F c_law_begun c_law_drawn c_quartic_points c_law_due
end K50
open PySem PySem.W PyProof.Rows
set_option maxRecDepth 100000 in
set_option maxHeartbeats 0 in
theorem PySem.Challenge.cw_pointsum_k50_whole_quartics_with_a_squar_holds : PySem.Challenge.rw_pointsum_k50_whole_quartics_with_a_squar.Holds := by
  w_on; o_law; k_head; (case hw => w_witness2)
  k_fill
  refine Gd.walk_g (l := PySem.Challenge.rw_pointsum_k50_whole_quartics_with_a_squar) (n := 63) (k := 5) (x := "script") (sp := fun K => K50.sp_law K) rfl (by decide) rfl ⟨rfl, by decide, by decide⟩ (fun w h Y => PySem.W.kIn_of Y) ?F (fun K H a ns hl hS => ⟨a, ns, rfl, hS, hl, fun _ => rfl⟩)
  case F =>
    intro w mg fa h KX G hmg
    refine' K50.all_mk KX G hmg ?a2 ?l2 ?c2 ?k2 ?a3 ?l3 ?c3 ?k3 ?a5 ?l5 ?c5 ?k5 ?a6 ?l6 ?c6 ?k6 ?a9 ?l9 ?c9 ?k9 ?a10 ?l10 ?c10 ?k10 ?a11 ?l11 ?c11 ?k11 ?a12 ?l12 ?c12 ?k12 ?a14 ?l14 ?c14 ?k14 ?a15 ?l15 ?c15 ?k15 ?a17 ?l17 ?c17 ?k17 ?a18 ?l18 ?c18 ?k18 ?a20 ?l20 ?c20 ?k20 ?a21 ?l21 ?c21 ?k21 ?a22 ?l22 ?c22 ?k22 ?a23 ?l23 ?c23 ?k23 ?a24 ?l24 ?c24 ?k24 ?a25 ?l25 ?c25 ?k25 ?a26 ?l26 ?c26 ?k26 ?a27 ?l27 ?c27 ?k27 ?a28 ?l28 ?c28 ?k28 ?a29 ?l29 ?c29 ?k29 ?a30 ?l30 ?c30 ?k30 ?z_isqrt ?z_int ?z_len ?z_tuple ?z_abs ?z_range ?z_reversed ?z_list ?z_sorted ?z_min ?z_max ?z_repr ?w_MODULI ?z_MODULI
    (case a2 => k_is); (case l2 => k_is); (case c2 => k_is); (case k2 => k_is); (case a3 => k_is); (case l3 => k_is); (case c3 => k_is); (case k3 => k_is)
    (case a5 => k_is); (case l5 => k_is); (case c5 => k_is); (case k5 => k_is); (case a6 => k_is); (case l6 => k_is); (case c6 => k_is); (case k6 => k_is)
    (case a9 => k_is); (case l9 => k_is); (case c9 => k_is); (case k9 => k_is); (case a10 => k_is); (case l10 => k_is); (case c10 => k_is); (case k10 => k_is)
    (case a11 => k_is); (case l11 => k_is); (case c11 => k_is); (case k11 => k_is); (case a12 => k_is); (case l12 => k_is); (case c12 => k_is); (case k12 => k_is)
    (case a14 => k_is); (case l14 => k_is); (case c14 => k_is); (case k14 => k_is); (case a15 => k_is); (case l15 => k_is); (case c15 => k_is); (case k15 => k_is)
    (case a17 => k_is); (case l17 => k_is); (case c17 => k_is); (case k17 => k_is); (case a18 => k_is); (case l18 => k_is); (case c18 => k_is); (case k18 => k_is)
    (case a20 => k_is); (case l20 => k_is); (case c20 => k_is); (case k20 => k_is); (case a21 => k_is); (case l21 => k_is); (case c21 => k_is); (case k21 => k_is)
    (case a22 => k_is); (case l22 => k_is); (case c22 => k_is); (case k22 => k_is); (case a23 => k_is); (case l23 => k_is); (case c23 => k_is); (case k23 => k_is)
    (case a24 => k_is); (case l24 => k_is); (case c24 => k_is); (case k24 => k_is); (case a25 => k_is); (case l25 => k_is); (case c25 => k_is); (case k25 => k_is)
    (case a26 => k_is); (case l26 => k_is); (case c26 => k_is); (case k26 => k_is); (case a27 => k_is); (case l27 => k_is); (case c27 => k_is); (case k27 => k_is)
    (case a28 => k_is); (case l28 => k_is); (case c28 => k_is); (case k28 => k_is); (case a29 => k_is); (case l29 => k_is); (case c29 => k_is); (case k29 => k_is)
    (case a30 => k_is); (case l30 => k_is); (case c30 => k_is); (case k30 => k_is); (case z_isqrt => k_is); (case z_int => k_is); (case z_len => k_is); (case z_tuple => k_is)
    (case z_abs => k_is); (case z_range => k_is); (case z_reversed => k_is); (case z_list => k_is); (case z_sorted => k_is); (case z_min => k_is); (case z_max => k_is); (case z_repr => k_is)
    (case w_MODULI => k_is); (case z_MODULI => k_is)
