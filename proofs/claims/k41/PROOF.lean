import PyProof.Rows.All
import Wide.All
import OpenK.AllK
import Wide.FinOn
import PyProof.ReprRoads
import HandS.ForMost
import HandS.Wide
import PyProof.StrLawsRepr
import PyProof.ReprLen
import HandS.TupAny
import HandS.Gcd
import HandS.More
import HandS.IsInst
import HandS.Style
import HandS.Defaults
import Flt.RightSqrt
import HandS.Codes
import HandS.WideBits
import HandS.TryOnly
import KE.BitLaws
import HandS.TupLen
import HandS.Iter
import HandS.Conv
import KE.KeyNested
import KE.KDictKeyed
import PySem.Challenge.RW_pointsum_k41_whole_groups_over_p
set_option Elab.async false
set_option linter.all false
set_option maxRecDepth 100000
/-! Promises that know that no repr is under way around the call; repr of plain data. -/
namespace Gd
open PySem PySem.Spec PyProof.Rows L2
/-- as the layer's FnOk, for calls around which nothing is being shown -/
structure FnG (P : Program) (w : World) (K : PySem.W.Frag) (mg : Str → Option Value) (base : Heap) (k : Nat) (f : Addr) (fd : FuncData) (ps : List Str) (sp : Sp) : Prop where
  many : ∀ vs H Q E, sp vs H Q E → vs.length = ps.length
  goes : ∀ (A : Around) (outer : List Env) (s : Shared) (H : Hp) (args : Args) (us : List Value) (vs : List V) (Q : VK) (E : XK), A.guards = some [] → Room k A → Env0 P w K mg base A outer s H →
    BindsTo s fd args (ps.zip us) → Vals vs us → sp vs H Q E → codeAny (model P w) A (.call (.ref f) args) (CR CX0 outer P w H s Q E) s
section
variable {P : Program} {w : World} {K : PySem.W.Frag} {mg : Str → Option Value} {base : Heap}
theorem FnG.of {k : Nat} {f : Addr} {fd : FuncData} {ps : List Str} {sp : Sp} (F : FnOk P w K mg base CX0 k f fd ps sp) : FnG P w K mg base k f fd ps sp :=
  ⟨F.len, fun A outer s H args us vs Q E _ => F.run A outer s H args us vs Q E⟩
theorem FnG.up {j k : Nat} {f : Addr} {fd : FuncData} {ps : List Str} {sp : Sp} (F : FnG P w K mg base j f fd ps sp) (h : j ≤ k) : FnG P w K mg base k f fd ps sp :=
  ⟨F.many, fun A outer s H args us vs Q E hg hr => F.goes A outer s H args us vs Q E hg (hr.mono h)⟩
/-- a def by its body -/
theorem FnG.by_body {x qual : Str} {st : Stmt} {f : Addr} {fd : FuncData} {N ps : List Str} {k : Nat} {sp : Sp} (F : Fun K x qual st f fd) (S : FnScope N ps (defScope st)) (len : ∀ vs H Q E, sp vs H Q E → vs.length = ps.length)
    (hb : ∀ (cdv : Value) (A : Around) (outer : List Env) (s : Shared) (H : Hp) (vs : List V) (Q : VK) (E : XK), A.guards = some [] → Room k (A.deeper (envOfC qual (defScope st) s.heap.objs.size f cdv)) → sp vs H Q E →
      ∃ t, PSs (cxOf CX0 P w K mg base N qual (defScope st) f cdv A outer s H E).nox (defBody st) t ∧ t { nx := fun _ H' => Q .non H', rt := Q } (start N vs) H) : FnG P w K mg base (k + 1) f fd ps sp := by
  obtain ⟨oc, od, kV, doc, pm, an, cdv, ct, osl, rfl, lk, hcd⟩ := F.ex
  constructor
  · exact len
  · intro A outer s H args us vs Q E hg hr e0 hbi rv hsp
    have hlen := len _ _ _ _ hsp
    have lim : s.heap.NoLimit := e0.mod.nolimit.keeps fun b o e => (e0.bs b o e).1
    have inK : K.In s.heap := e0.mod.kin.keeps fun b o e => (e0.bs b o e).1
    have kinds : ∀ y ∈ ps.zip us, (defScope st).names.lookup y.1 = some .local ∨ ((defScope st).names.lookup y.1 = some .cell ∧ ((cellsFrom (s.heap.objs.size + 1) (defScope st).names []).lookup y.1).isSome = true) := by
      rintro ⟨n, v⟩ hy
      have hp := S.par n (List.of_mem_zip hy).1
      cases hp with
      | inl q => exact Or.inl q
      | inr q => exact Or.inr ⟨q, PySem.W.cellsFrom_some _ _ _ (Or.inl q)⟩
    refine codeAny_call_function hr.depth (inK _ _ lk) rfl S.co S.gen rfl (PySem.W.codeRec_of inK hcd) (hbi _ _ _ _ ?_)
    refine wpAny_newFunctionEnv_cells S.kind kinds fun env he s1 x1 => ?_
    subst he
    refine ⟨lim.keeps x1.toInCall.keep, codeAny_func ?_⟩
    obtain ⟨t, ht, hq⟩ := hb cdv A outer s H vs Q E hg (hr.deeper _) hsp
    have I0 : Inv (cxOf CX0 P w K mg base N qual (defScope st) f cdv A outer s H E) [] (start N vs) H s1 := inv_start S hr.hd e0 hlen rv x1
    refine wpAny_mono (ht.nox.run [] s1 (start N vs) H _ I0 hq) (fun fl s' hs => ?_) fun e s' hs => hs
    match fl, hs with
    | .ret u, ⟨v, σ', H', J, r1, q1⟩ => exact ⟨v, H', J.os, J.bare, J.base, J.hok, r1, q1⟩
    | .next, ⟨σ', H', J, q1⟩ => exact ⟨V.non, H', J.os, J.bare, J.base, J.hok, rfl, q1⟩
    | .brk, ⟨_, _, _, q1⟩ => exact q1.elim
    | .cont, ⟨_, _, _, q1⟩ => exact q1.elim
end
/-- f(e, ..) where every parameter is given -/
def tKal (sp : Sp) (t : TA) : TE := fun σ H Q => t σ H fun vs H1 => sp vs H1 Q E0
/-- a def that may be called by its name -/
structure Kl (P : Program) (w : World) (K : PySem.W.Frag) (mg : Str → Option Value) (base : Heap) (k : Nat) (x : Str) (sp : Sp) : Prop where
  ex : ∃ (f : Addr) (fd : FuncData) (ps : List Str), FnOk P w K mg base CX0 k f fd ps sp ∧ mg x = some (.ref f) ∧ PySem.W.keepIn K (.ref f) = true ∧ Binds K fd ps []
structure Kg (P : Program) (w : World) (K : PySem.W.Frag) (mg : Str → Option Value) (base : Heap) (k : Nat) (x : Str) (sp : Sp) : Prop where
  ex : ∃ (f : Addr) (fd : FuncData) (ps : List Str), FnG P w K mg base k f fd ps sp ∧ mg x = some (.ref f) ∧ PySem.W.keepIn K (.ref f) = true ∧ Binds K fd ps []
section
variable {X : Cx} {j k : Nat} {f : Addr} {fd : FuncData} {ps : List Str} {sp : Sp} {x : Str} {p pos : Pos} {e : Expr} {es : List Expr} {t : TA}
theorem run_g {pins : List (Addr × Obj)} {σ : L2.St} {H : Hp} {s : Shared} {Q : VK} {us : List Value} {vs : List V} (F : FnG X.prog X.w X.K X.mg X.base k f fd ps sp) (hg : X.A.guards = some []) (hr : Room k X.A) (hb : Binds X.K fd ps [])
    (I : Inv X pins σ H s) (r : Vals vs us) (h : sp vs H Q E0) : wpAny (model X.prog X.w) X.A (call (.ref f) us) (EP X pins σ Q) X.xe s := by
  have hl : us.length = ps.length := r.length.symm.trans (F.many _ _ _ _ h)
  have hbb := hb s us I.kIn (by rw [List.append_nil]; exact hl)
  rw [List.append_nil] at hbb
  refine wpAny_call (codeAny_mono (F.goes X.A X.stack s H ⟨us, []⟩ us vs Q E0 hg hr I.env0 hbb r h) fun res s' hq => ?_)
  match res, hq with
  | .ok (.ret u), hq => exact I.after hq
  | .error e, hq => exact (show False from hq).elim
theorem pe_g (c : Kg X.prog X.w X.K X.mg X.base k x sp) (hgd : X.A.guards = some []) (hr : Room j X.A) (hk : k ≤ j) (hg : Gl X x) (ha : PA X (e :: es) t)
    (hdb : (x == ("__debug__" : Str)) = false := by decide) (he : starEach (e :: es) X.env = (false, eval e X.env) :: starEach es X.env := by rfl) (hpl : (backTo pos (starEach es X.env)).any (·.1) = false := by rfl) :
    PE X (.Call (.Name x p) (e :: es) [] pos) (tKal sp t) := by
  obtain ⟨f, fd, ps, F, hm, kp, b⟩ := c.ex
  constructor
  intro pins s σ H Q I h
  refine wpAny_Call_Name_kw (ld_glob I hg hm ?_ hdb)
  refine PySem.W.callWith_K (h₀ := X.base) I.ok.mod.kin kp (thn (ha.run pos pins s σ H _ I h) fun us s1 ⟨vs, H1, I1, r, q⟩ => ⟨I1.kIn, ?_⟩) he hpl
  exact run_g F hgd (hr.mono hk) b I1 r q
theorem pe_k (c : Kl X.prog X.w X.K X.mg X.base k x sp) (hr : Room j X.A) (hk : k ≤ j) (hg : Gl X x) (ha : PA X (e :: es) t)
    (hdb : (x == ("__debug__" : Str)) = false := by decide) (he : starEach (e :: es) X.env = (false, eval e X.env) :: starEach es X.env := by rfl) (hpl : (backTo pos (starEach es X.env)).any (·.1) = false := by rfl) :
    PE X (.Call (.Name x p) (e :: es) [] pos) (tKal sp t) := by
  obtain ⟨f, fd, ps, F, hm, kp, b⟩ := c.ex
  have h := pe_call (sp := sp) (E := E0) (dvs := []) F (hr.mono hk) hg hm kp b .nil pass0 ha hdb he hpl (pos := pos) (p := p)
  constructor
  intro pins s σ H Q I q
  refine h.run pins s σ H Q I ?_
  have e2 : tCall sp [] E0 t = tKal sp t := by
    funext σ H Q
    show t σ H (fun vs H1 => sp (vs ++ []) H1 Q E0) = t σ H (fun vs H1 => sp vs H1 Q E0)
    congr 1
    funext vs H1
    rw [List.append_nil]
  rw [e2]
  exact q
end
/-! ### repr of plain data -/
mutual
/-- at most so many signs -/
def wt : PyData → Nat
  | .none | .bool _ => 5
  | .int _ => 1921
  | .str x => 10 * x.length + 2
  | .list xs | .tuple xs => wtAll xs + 3
  | .dict _ => 0
def wtAll : List PyData → Nat
  | [] => 0
  | x :: xs => wt x + 2 + wtAll xs
end
mutual
/-- data that can be shown: its ints below 1920 bits -/
def okD : PyData → Bool
  | .none | .bool _ => true
  | .int i => decide (i.natAbs.log2 < 1920)
  | .str x => x.cps.toList.all fun c => decide (c < 16 ^ 8)
  | .list xs | .tuple xs => okAll xs
  | .dict _ => false
def okAll : List PyData → Bool
  | [] => true
  | x :: xs => okD x && okAll xs
end
theorem one_br : (("[" : Str)).length = 1 := rfl
theorem one_br2 : (("]" : Str)).length = 1 := rfl
theorem one_pa : (("(" : Str)).length = 1 := rfl
theorem tup_wt (ts : List Str) : (tupleText ts).length ≤ piled ts + 3 := by
  have e3 : (((if ts.length == 1 then ",)" else ")" : String) : Str)).length ≤ 2 := by split <;> decide +kernel
  unfold tupleText
  rw [strLen_append, strLen_append, one_pa]
  cases ts with
  | nil =>
    have : (Str.join ", " []).length = 0 := by decide +kernel
    omega
  | cons x r =>
    have := join_length_add (x :: r) (List.cons_ne_nil _ _)
    omega
theorem sum_piled : ∀ ts : List Str, (ts.map (·.length)).sum + 2 * ts.length = piled ts
  | [] => rfl
  | t :: ts => by
    have ih := sum_piled ts
    rw [piled_cons, ← ih, List.map_cons, List.sum_cons, List.length_cons]
    omega
theorem lst_wt (ts : List Str) : (listText ts).length ≤ piled ts + 3 := by
  have h := textFrom_len_le ts 0 "["
  have h2 := sum_piled ts
  unfold listText
  rw [strLen_append, one_br2]
  rw [one_br] at h
  omega
mutual
theorem shown_wt : ∀ d : PyData, okD d = true → d.shown.length ≤ wt d ∧ d.showable = true ∧ d.hasDict = false
  | .none, _ => by
    refine ⟨?_, rfl, rfl⟩
    show (("None" : Str)).length ≤ 5
    decide +kernel
  | .bool b, _ => by
    refine ⟨?_, rfl, rfl⟩
    cases b <;> (show _ ≤ 5; decide +kernel)
  | .int i, h => by
    have h1 : i.natAbs.log2 < 1920 := of_decide_eq_true (by simpa only [okD] using h)
    refine ⟨?_, by simpa only [PyData.showable] using decide_eq_true h1, rfl⟩
    have e := int_text_length_le (k := 1920) (by decide) h1
    show (Str.ofString (toString i)).length ≤ 1921
    rw [PySem.ofString_length]
    exact e
  | .str x, h => by
    refine ⟨?_, rfl, rfl⟩
    have h1 : ∀ c ∈ x.cps.toList, c < 16 ^ 8 := fun c hc => of_decide_eq_true (List.all_eq_true.mp (by simpa only [okD] using h) c hc)
    exact StrLaws.reprText_len x h1
  | .list xs, h => by
    obtain ⟨h1, h2, h3⟩ := shown_wtAll xs (by simpa only [okD] using h)
    refine ⟨?_, by simpa only [PyData.showable] using h2, by simpa only [PyData.hasDict] using h3⟩
    simp only [PyData.shown, wt]
    exact Nat.le_trans (lst_wt _) (Nat.add_le_add_right h1 3)
  | .tuple xs, h => by
    obtain ⟨h1, h2, h3⟩ := shown_wtAll xs (by simpa only [okD] using h)
    refine ⟨?_, by simpa only [PyData.showable] using h2, by simpa only [PyData.hasDict] using h3⟩
    simp only [PyData.shown, wt]
    exact Nat.le_trans (tup_wt _) (Nat.add_le_add_right h1 3)
  | .dict _, h => by simp only [okD, Bool.false_eq_true] at h
theorem shown_wtAll : ∀ xs : List PyData, okAll xs = true → piled (PyData.shownAll xs) ≤ wtAll xs ∧ PyData.showableAll xs = true ∧ PyData.hasDictAll xs = false
  | [], _ => ⟨Nat.le_refl _, rfl, rfl⟩
  | x :: xs, h => by
    have h0 : (okD x && okAll xs) = true := by simpa only [okAll] using h
    rw [Bool.and_eq_true] at h0
    obtain ⟨a1, a2, a3⟩ := shown_wt x h0.1
    obtain ⟨b1, b2, b3⟩ := shown_wtAll xs h0.2
    refine ⟨?_, by simp only [PyData.showableAll, a2, b2, Bool.and_self], by simp only [PyData.hasDictAll, a3, b3, Bool.or_self]⟩
    simp only [PyData.shownAll, wtAll]
    rw [piled_cons]
    omega
end
/-- the text of data -/
def rRepr (K : PySem.W.Frag) : List V → Hp → VK → Prop := fun xs H Q => ∃ x d, xs = [x] ∧ Dp K H x d ∧ okD d = true ∧ d.depth ≤ 40 ∧ wt d ≤ 1000000 ∧ Q (.str d.shown) H
section
variable {X : Cx}
theorem call_reprD (hg : X.A.guards = some []) (hu : X.A.units + 64 < cLine) : CallR X (.builtin "repr") (rRepr X.K) := by
  intro pins s σ H xs us Q I r h
  obtain ⟨x, d, rfl, hd, h0, h3, hw, q⟩ := h
  obtain ⟨hz, h1, h2⟩ := shown_wt d h0
  have h4 : d.shown.length ≤ sizeLine := Nat.le_trans hz (Nat.le_trans hw (by decide))
  obtain ⟨u, rfl, hx⟩ := vals1 r
  obtain ⟨as, rd⟩ := Dp.reads I d x u hd hx
  cases hd with
  | non =>
    obtain rfl : u = Value.none := hx
    exact PySem.P.repr_of_none ⟨.str _, H, I.tok _, ⟨_, rfl⟩, q⟩
  | bl b =>
    obtain rfl : u = Value.bool b := hx
    exact PySem.P.repr_of_bool ⟨.str _, H, I.tok _, ⟨_, rfl⟩, q⟩
  | int i =>
    obtain ⟨t, rfl⟩ := hx
    exact PySem.P.repr_of_int (of_decide_eq_true h1) ⟨.str _, H, I.tok _, ⟨_, rfl⟩, q⟩
  | str z =>
    obtain ⟨t, rfl⟩ := hx
    exact PySem.P.repr_of_str ⟨.str _, H, I.tok _, ⟨_, rfl⟩, q⟩ h4
  | lst hs ha =>
    obtain rfl : u = Value.ref _ := hx
    refine repr_of_reads' rd h1 (PyData.noDict_hsm h2) hg (by omega) (fun _ _ z => z) (fun h' u tk hk => ?_) h4
    exact ⟨.str _, H, I.kept (t' := tk) hk, ⟨_, rfl⟩, q⟩
  | tup hs ha =>
    obtain rfl : u = Value.ref _ := hx
    refine repr_of_reads' rd h1 (PyData.noDict_hsm h2) hg (by omega) (fun _ _ z => z) (fun h' u tk hk => ?_) h4
    exact ⟨.str _, H, I.kept (t' := tk) hk, ⟨_, rfl⟩, q⟩
end
/-! ### the law's end -/
section
variable {P : Program} {w : World} {K : PySem.W.Frag} {mg mb : Str → Option Value} {k : Nat} {fa a : Addr} {fd : FuncData} {x : Str} {sp : Sp} {s1 : Shared} {vs : List Value} {ns : List Int}
/-- from a heap H in which at most the script is tracked -/
theorem law_from {H : Hp} (KX : K.In s1.heap) (hns : s1.heap.Ns mainGlobals mg) (hb : s1.heap.Ns builtinsNs mb) (hbb : ∀ x : Str, x ≠ "__name__" → mb x = bootBuiltins x) (hlim : s1.heap.NoLimit) (hg : s1.gens = #[])
    (ha : s1.heap.get? a = some { cls := .type "list", data := .seq vs.toArray }) (hr : Room k callerA) (F : ∀ base : Heap, K.In base → base.Ns mainGlobals mg → FnG P w K mg base k fa fd [x] sp)
    (hbind : ∀ (s : Shared) (u : Value), BindsTo s fd ⟨[u], []⟩ [(x, u)]) (hO : Only H) (hok : HOk P w H s1.heap) (hA : ∀ b, H b ≠ none → b = a) (hK : H a ≠ none → K.lookup a = none)
    (hsp : sp [.ref a] H (fun v _ => v = .bl true) fun _ _ _ => False) :
    codeAny (model P w) callerA (.call (.ref fa) ⟨[.ref a], []⟩) (fun r s' => r = .ok (.ret (.bool true)) ∧ OldK s1.heap s'.heap ∧ s'.os = s1.os ∧ AllBare s'.gens) s1 := by
  have untr : ∀ {b : Addr} {o : Obj} {es : Array DictEntry} {ep : Nat}, s1.heap.get? b = some o → o.data = .dict es ep → H b = none := by
    intro b o es ep e d
    cases q : H b with
    | none => rfl
    | some u =>
      obtain rfl : b = a := hA b (by rw [q]; exact Option.some_ne_none u)
      rw [ha] at e
      cases e
      exact absurd (show Data.seq vs.toArray _ = Data.dict es ep from d) (by intro z; cases z)
  have nsH : ∀ {b : Addr} {m : Str → Option Value}, s1.heap.Ns b m → (hidT s1.heap H).Ns b m := by
    rintro b m ⟨o, es, ep, e, d, r⟩
    exact ⟨o, es, ep, hidT_get e (untr e d), d, r⟩
  have inH : K.In (hidT s1.heap H) := by
    intro b o e
    refine hidT_get (KX b o e) ?_
    cases q : H b with
    | none => rfl
    | some u =>
      have hne : H b ≠ none := by rw [q]; exact Option.some_ne_none u
      obtain rfl : b = a := hA b hne
      rw [hK hne] at e
      cases e
  obtain ⟨mc, l1, l2⟩ := hlim
  have md : Mod K mg (hidT s1.heap H) := ⟨inH, nsH hns, ⟨mb, nsH hb, hbb⟩, ⟨mc, nsH l1, l2⟩⟩
  have e0 : Env0 P w K mg (hidT s1.heap H) callerA [] s1 H := by
    refine ⟨rfl, md, fun b o e => of_hidT e, Nat.le_of_eq (hidT_size _ _), trivial, ?_, hok, .of_eq hg⟩
    intro b hb
    cases (show b ∈ ([] : List Addr) from hb)
  have run := (F _ inH (nsH hns)).goes callerA [] s1 H ⟨[.ref a], []⟩ [.ref a] [.ref a] _ _ rfl hr e0 (hbind s1 (.ref a)) (.cons rfl .nil) hsp
  refine codeAny_mono run fun r s' h => ?_
  match r, h with
  | .error e, h => exact (show False from h).elim
  | .ok (.ret u), ⟨v, H', os, bare, un, hok', r', q⟩ =>
    obtain rfl : v = .bl true := q
    obtain rfl : u = Value.bool true := r'
    refine ⟨rfl, OldK.of_keep ?_, os, bare⟩
    intro b o e
    cases q : H b with
    | none => exact un.keep b o e q (fun z => by cases (show b ∈ ([] : List Addr) from z)) (fun z => by cases z)
    | some u =>
      rcases hO b with z | ⟨ob, xs, z⟩
      · rw [q] at z
        cases z
      · have k1 := (hok b _ z).1
        have k2 := (hok' b _ (un.frzs b ob _ z)).1
        rw [e] at k1
        cases k1
        exact k2
theorem law_g (KX : K.In s1.heap) (hns : s1.heap.Ns mainGlobals mg) (hb : s1.heap.Ns builtinsNs mb) (hbb : ∀ x : Str, x ≠ "__name__" → mb x = bootBuiltins x) (hlim : s1.heap.NoLimit) (hg : s1.gens = #[])
    (ha : s1.heap.get? a = some { cls := .type "list", data := .seq vs.toArray }) (hi : IntsAre vs ns) (hl : ns.length ≤ sizeLine) (hr : Room k callerA) (F : ∀ base : Heap, K.In base → base.Ns mainGlobals mg → FnG P w K mg base k fa fd [x] sp)
    (hbind : ∀ (s : Shared) (u : Value), BindsTo s fd ⟨[u], []⟩ [(x, u)]) (hsp : ∀ H : Hp, Only H → SqL K H a (ns.map V.int) → sp [.ref a] H (fun v _ => v = .bl true) fun _ _ _ => False) :
    codeAny (model P w) callerA (.call (.ref fa) ⟨[.ref a], []⟩) (fun r s' => r = .ok (.ret (.bool true)) ∧ OldK s1.heap s'.heap ∧ s'.os = s1.os ∧ AllBare s'.gens) s1 := by
  have rv := vals_ints hi
  have lv := hi.length
  cases hk : K.lookup a with
  | some o =>
    have e := KX a o hk
    rw [ha] at e
    cases e
    refine law_from (H := fun _ => none) KX hns hb hbb hlim hg ha hr F hbind (fun _ => Or.inl rfl) (fun b u z => ?_) (fun b z => absurd rfl z) (fun z => absurd rfl z) (hsp _ (fun _ => Or.inl rfl) (Or.inr ?_))
    · cases (show (none : Option HO) = some u from z)
    · exact ⟨_, vs.toArray, _, hk, rfl, rfl, rfl, by rw [List.size_toArray, lv]; exact hl, by simpa using rv⟩
  | none =>
    let ob : Obj := { cls := .type "list", data := .seq vs.toArray }
    have one : ∀ b, (if b = a then some (HO.frz ob (.lst (ns.map V.int))) else none) ≠ none → b = a := fun b z => by
      by_cases hb : b = a
      · exact hb
      · exact absurd (if_neg hb) z
    have only : Only (fun b => if b = a then some (HO.frz ob (.lst (ns.map V.int))) else none) := fun b => by
      by_cases hb : b = a
      · exact Or.inr ⟨_, _, if_pos hb⟩
      · exact Or.inl (if_neg hb)
    refine law_from (H := fun b => if b = a then some (HO.frz ob (.lst (ns.map V.int))) else none) KX hns hb hbb hlim hg ha hr F hbind only (fun b u z => ?_) one (fun _ => hk) (hsp _ only (Or.inl (Or.inr ⟨ob, if_pos rfl⟩)))
    by_cases hb : b = a
    · obtain rfl := Option.some.inj ((if_pos hb).symm.trans z)
      subst hb
      exact ⟨ha, by rw [List.length_map]; exact hl, vs, _, rv, ha⟩
    · cases (if_neg hb).symm.trans z
end
theorem walk_g {l : PySem.W.OpenLaw} {n k : Nat} {q : Program} {loose : List Str} {XP : (Str → Option Value) → Heap → Prop} {YP : World → Heap → Prop} {d : DefRec} {K : Params → PySem.W.Frag} {sp : PySem.W.Frag → Sp} {x : Str}
    (hn : l.most = some n) (hn2 : n ≤ sizeLine) (hdf : d.params.defaults = []) (hr : Room k callerA) (hY : ∀ (w : World) (h : Heap), YP w h → (K w.params).In h)
    (F : ∀ (w : World) (mg : Str → Option Value) (fa : Addr) (h : Heap), (K w.params).In h → h.Ns mainGlobals mg → mg d.name = some (.ref fa) → ∃ fd : FuncData, (∀ (s : Shared) (u : Value), BindsTo s fd ⟨[u], []⟩ [(x, u)]) ∧
        ∀ base : Heap, (K w.params).In base → base.Ns mainGlobals mg → FnG l.prog w (K w.params) mg base k fa fd [x] (sp (K w.params)))
    (hsp : ∀ (K : PySem.W.Frag) (H : Hp) (a : Addr) (ns : List Int), ns.length ≤ n → SqL K H a (ns.map V.int) → sp K [.ref a] H (fun v _ => v = .bl true) fun _ _ _ => False) :
    PySem.W.WalkO q loose XP YP l.row.toRowW d [] (fun f vs => PySem.call f vs) := by
  refine Att.attach_call hn hdf fun w s0 s1 mg mb fa o pm cd doc a vs ns G Y ho hd hcd hmg hobj hints hlen hg => ?_
  obtain ⟨fd, hb, hF⟩ := F w mg fa _ (hY w _ Y) G.T.g hmg
  exact law_g (hY w _ Y) G.T.g G.T.b G.T.builtins G.T.nolimit hg hobj hints (Nat.le_trans hlen hn2) hr hF hb fun H _ hS => hsp (K w.params) H a ns hlen hS
end Gd
set_option Elab.async false
set_option linter.all false
set_option maxRecDepth 100000
/-! Common words: sizes of ints, heaps that grow, defs of the text by their names. -/
namespace Gd
open PySem PySem.Spec PyProof.Rows L2
/-! ### sizes -/
def B (n : Nat) (x : Int) : Prop := x.natAbs < 2 ^ n
theorem B.up {m n : Nat} {x : Int} (h : B m x) (k : m ≤ n) : B n x := Nat.lt_of_lt_of_le h (Nat.pow_le_pow_right (by decide) k)
theorem B.add {m n : Nat} {x y : Int} (hx : B m x) (hy : B n y) : B (max m n + 1) (x + y) := by
  have h1 : x.natAbs < 2 ^ max m n := hx.up (Nat.le_max_left m n)
  have h2 : y.natAbs < 2 ^ max m n := hy.up (Nat.le_max_right m n)
  unfold B
  rw [Nat.pow_succ]
  omega
theorem B.neg {n : Nat} {x : Int} (hx : B n x) : B n (-x) := by
  unfold B at *
  omega
theorem B.sub {m n : Nat} {x y : Int} (hx : B m x) (hy : B n y) : B (max m n + 1) (x - y) := by
  rw [Int.sub_eq_add_neg]
  exact hx.add hy.neg
theorem B.mul {m n : Nat} {x y : Int} (hx : B m x) (hy : B n y) : B (m + n) (x * y) := wide_lt hx hy
theorem B.pow {m : Nat} {x : Int} (hx : B m x) : ∀ k : Nat, B (m * k + 1) (x ^ k)
  | 0 => by
    rw [Int.pow_zero]
    exact Nat.one_lt_two_pow (by omega)
  | k + 1 => by
    rw [Int.pow_succ]
    exact ((B.pow hx k).mul hx).up (by rw [Nat.mul_succ]; omega)
theorem B.lit {n : Nat} {x : Int} (h : x.natAbs < 2 ^ n) : B n x := h
theorem B.mulW {m n : Nat} {x y : Int} (hx : B m x) (hy : B n y) (h : m + n ≤ 900000) : CMulW x y :=
  wide_mul (hx.up (Nat.le_add_right m 1)) (hy.up (Nat.le_add_right n 1)) (by omega) (by omega) (by omega)
theorem B.mulL {n : Nat} {x y : Int} (hx : B n x) (h : n ≤ 64) : CMul x y := by
  have h1 := hx.up h
  unfold B at h1
  exact Or.inl ⟨by omega, by omega⟩
theorem B.mulR {n : Nat} {x y : Int} (hy : B n y) (h : n ≤ 64) : CMul x y := by
  have h1 := hy.up h
  unfold B at h1
  exact Or.inr ⟨by omega, by omega⟩
theorem B.log {n : Nat} {x : Int} (hx : B n x) (h : n ≤ 1900) : x.natAbs.log2 < 1920 := by
  have h1 : x.natAbs < 2 ^ 1901 := hx.up (by omega)
  exact PySem.Flt.log2_lt_of (by decide) (Nat.lt_of_lt_of_le h1 (Nat.pow_le_pow_right (by decide) (by decide)))
theorem B.between {n : Nat} {x : Int} (m : Int) (h0 : -m ≤ x) (h1 : x ≤ m) (h : m.natAbs < 2 ^ n) : B n x := by
  unfold B
  omega
theorem small {n : Nat} (h : n ≤ 1000) : n ≤ sizeLine := Nat.le_trans h (by decide)
/-! ### heaps -/
theorem Same.new {H : Hp} {p : Addr} {o : HO} (h : H p = none) : Same H (upd H p o) := fun b x e => by
  rw [upd_ne (ne_of_none e h)]
  exact e
theorem Same.put {H H1 : Hp} {p : Addr} {o : HO} (s : Same H H1) (h : H p = none) : Same H (upd H1 p o) := fun b x e => by
  rw [upd_ne (ne_of_none e h)]
  exact s b x e
theorem Same.rd {H H' : Hp} {a : Addr} {u : HO} (e : Same H H') (h : Rd H a u) : Rd H' a u := by
  rcases h with h | ⟨o, h⟩
  · exact Or.inl (e _ _ h)
  · exact Or.inr ⟨o, e _ _ h⟩
theorem Same.tup {K : PySem.W.Frag} {H H' : Hp} {a : Addr} {xs : List V} (e : Same H H') (h : SqT K H a xs) : SqT K H' a xs := by
  rcases h with h | h
  · exact Or.inl (Same.rd e h)
  · exact Or.inr h
theorem tup_of {K : PySem.W.Frag} {H : Hp} {a : Addr} {xs : List V} (h : H a = some (.tup xs)) : SqT K H a xs := Or.inl (Or.inl h)
theorem lst_of {K : PySem.W.Frag} {H : Hp} {a : Addr} {xs : List V} (h : H a = some (.lst xs)) : SqL K H a xs := Or.inl (Or.inl h)
/-- all but what stands at m is as it was -/
def But (m : Addr) (H H' : Hp) : Prop := ∀ b o, H b = some o → b ≠ m → H' b = some o
theorem But.refl (m : Addr) (H : Hp) : But m H H := fun _ _ e _ => e
theorem But.trans {m : Addr} {H H1 H2 : Hp} (a : But m H H1) (b : But m H1 H2) : But m H H2 := fun c o e n => b c o (a c o e n) n
theorem But.of {m : Addr} {H H' : Hp} (a : Same H H') : But m H H' := fun c o e _ => a c o e
theorem But.upd {m : Addr} {H : Hp} {o : HO} : But m H (upd H m o) := fun c x e n => by
  rw [upd_ne n]
  exact e
/-- the same where m was not known -/
theorem But.same {m : Addr} {H H1 H2 : Hp} (s : Same H H1) (b : But m H1 H2) (h : H m = none) : Same H H2 := fun c o e => b c o (s c o e) (ne_of_none e h)
/-- the slots said anew -/
theorem sig {nx : L2.St → Hp → Prop} {σ : L2.St} {H : Hp} (σ' : L2.St) (e : σ = σ') (h : nx σ' H) : nx σ H := e ▸ h
theorem sigN {nx : L2.St → Hp → Prop} {i : Nat} {v : V} {σ : L2.St} {H : Hp} (σ' : L2.St) (e : σ.set i (some v) = σ') (h : nx σ' H) : gName i v σ H nx := by
  subst e
  exact h
/-- a number of the module -/
theorem pe_kon {X : Cx} {x : Str} {pos : Pos} {v : V} (hg : Gl X x) (h : ∃ u, X.mg x = some u ∧ RelV v u) (hd : (x == ("__debug__" : Str)) = false := by decide) : PE X (.Name x pos) (tC v) := by
  obtain ⟨u, hm, r⟩ := h
  exact pe_glob hg hm r hd
/-- int(n) of a number -/
theorem call_intI {X : Cx} : CallR X (.type "int") (fun xs H Q => ∃ i, xs = [.int i] ∧ Q (.int i) H) := fun pins s σ H xs us Q I r h => call_int1 pins s σ H xs us Q I r (Or.inl h)
/-! ### the state of the draws: four entries -/
def mk4 (L s : Int) (c : Addr) (n : Int) : List (Key × V) := [(Sum.inr "left", .int L), (Sum.inr "seed", .int s), (Sum.inr "cells", .ref c), (Sum.inr "spot", .int n)]
theorem kn12 : ¬ (("left" : Str) = "seed") := by decide +kernel
theorem kn13 : ¬ (("left" : Str) = "cells") := by decide +kernel
theorem kn14 : ¬ (("left" : Str) = "spot") := by decide +kernel
theorem kn23 : ¬ (("seed" : Str) = "cells") := by decide +kernel
theorem kn24 : ¬ (("seed" : Str) = "spot") := by decide +kernel
theorem kn34 : ¬ (("cells" : Str) = "spot") := by decide +kernel
theorem kn21 : ¬ (("seed" : Str) = "left") := by decide +kernel
theorem kn31 : ¬ (("cells" : Str) = "left") := by decide +kernel
theorem kn41 : ¬ (("spot" : Str) = "left") := by decide +kernel
theorem kn42 : ¬ (("spot" : Str) = "seed") := by decide +kernel
theorem kn43 : ¬ (("spot" : Str) = "cells") := by decide +kernel
theorem kn32 : ¬ (("cells" : Str) = "seed") := by decide +kernel
section
variable {L s n : Int} {c : Addr}
theorem m4_left : valV (mk4 L s c n) (Sum.inr "left") = some (.int L) := by simp [valV, mk4, List.find?_cons]
theorem m4_seed : valV (mk4 L s c n) (Sum.inr "seed") = some (.int s) := by simp [valV, mk4, List.find?_cons, kn12]
theorem m4_cells : valV (mk4 L s c n) (Sum.inr "cells") = some (.ref c) := by simp [valV, mk4, List.find?_cons, kn13, kn23]
theorem m4_spot : valV (mk4 L s c n) (Sum.inr "spot") = some (.int n) := by simp [valV, mk4, List.find?_cons, kn14, kn24, kn34]
theorem m4_putL (y : Int) : putK (mk4 L s c n) (Sum.inr "left") (.int y) = mk4 y s c n := by simp [putK, mk4, kn21, kn31, kn41]
theorem m4_merge : mergeK [] (mk4 L s c n) = mk4 L s c n := by simp [mergeK, putK, mk4, List.foldl, kn12, kn13, kn14, kn23, kn24, kn34]
theorem m4_putS (y : Int) : putK (mk4 L s c n) (Sum.inr "spot") (.int y) = mk4 L s c y := by simp [putK, mk4, kn14, kn24, kn34]
end
/-- the state stands at m, with at most n draws out of the cells behind it -/
def MAt (H : Hp) (m c : Addr) (n : Nat) : Prop := ∃ (L s : Int) (cs : List Int) (k : Nat), H m = some (.dK (mk4 L s c (k : Int))) ∧ k ≤ n ∧ H c = some (.lst (cs.map V.int)) ∧ 0 < cs.length
theorem MAt.up {H : Hp} {m cl : Addr} {n n' : Nat} (h : MAt H m cl n) (k : n ≤ n') : MAt H m cl n' := by
  obtain ⟨L, s, cs, j, h1, h2, h3, h4⟩ := h
  exact ⟨L, s, cs, j, h1, Nat.le_trans h2 k, h3, h4⟩
theorem MAt.same {H H' : Hp} {m cl : Addr} {n : Nat} (h : MAt H m cl n) (e : Same H H') : MAt H' m cl n := by
  obtain ⟨L, s, cs, j, h1, h2, h3, h4⟩ := h
  exact ⟨L, s, cs, j, e _ _ h1, h2, e _ _ h3, h4⟩
theorem MAt.some {H : Hp} {m cl : Addr} {n : Nat} (h : MAt H m cl n) : ∃ kvs, H m = some (.dK kvs) := by
  obtain ⟨L, s, cs, j, h1, _⟩ := h
  exact ⟨_, h1⟩
theorem MAt.ne {H : Hp} {m cl p : Addr} {n : Nat} (h : MAt H m cl n) (e : H p = none) : m ≠ p ∧ cl ≠ p := by
  obtain ⟨L, s, cs, j, h1, h2, h3, h4⟩ := h
  exact ⟨ne_of_none h1 e, ne_of_none h3 e⟩
theorem MAt.put {H : Hp} {m cl p : Addr} {n : Nat} {o : HO} (h : MAt H m cl n) (e : m ≠ p ∧ cl ≠ p) : MAt (upd H p o) m cl n := by
  obtain ⟨L, s, cs, j, h1, h2, h3, h4⟩ := h
  refine ⟨L, s, cs, j, ?_, h2, ?_, h4⟩
  · rw [upd_ne e.1]
    exact h1
  · rw [upd_ne e.2]
    exact h3
/-- what the draws leave: fresh stays fresh -/
theorem But.free {m p cl : Addr} {H H' : Hp} {n : Nat} (b : But m H H') (h : MAt H' m cl n) (e : H' p = none) : H p = none := by
  obtain ⟨kvs, hm⟩ := h.some
  cases q : H p with
  | none => rfl
  | some o =>
    by_cases hp : p = m
    · subst hp
      rw [hm] at e
      cases e
    · rw [b p o q hp] at e
      cases e
theorem But.tup {m p cl : Addr} {H H' : Hp} {n : Nat} {xs : List V} (b : But m H H') (h : MAt H m cl n) (e : H p = some (.tup xs)) : H' p = some (.tup xs) := by
  obtain ⟨kvs, hm⟩ := h.some
  exact b p _ e (ne_of e hm (by intro z; cases z))
theorem But.lst {m p cl : Addr} {H H' : Hp} {n : Nat} {xs : List V} (b : But m H H') (h : MAt H m cl n) (e : H p = some (.lst xs)) : H' p = some (.lst xs) := by
  obtain ⟨kvs, hm⟩ := h.some
  exact b p _ e (ne_of e hm (by intro z; cases z))
theorem But.seqL {K : PySem.W.Frag} {m p cl : Addr} {H H' : Hp} {n : Nat} {xs : List V} (b : But m H H') (h : MAt H m cl n) (e : SqL K H p xs) : SqL K H' p xs := by
  obtain ⟨kvs, hm⟩ := h.some
  rcases e with (e | ⟨o, e⟩) | e
  · exact Or.inl (Or.inl (b p _ e (ne_of e hm (by intro z; cases z))))
  · exact Or.inl (Or.inr ⟨o, b p _ e (ne_of e hm (by intro z; cases z))⟩)
  · exact Or.inr e
theorem But.seqT {K : PySem.W.Frag} {m p cl : Addr} {H H' : Hp} {n : Nat} {xs : List V} (b : But m H H') (h : MAt H m cl n) (e : SqT K H p xs) : SqT K H' p xs := by
  obtain ⟨kvs, hm⟩ := h.some
  rcases e with (e | ⟨o, e⟩) | e
  · exact Or.inl (Or.inl (b p _ e (ne_of e hm (by intro z; cases z))))
  · exact Or.inl (Or.inr ⟨o, b p _ e (ne_of e hm (by intro z; cases z))⟩)
  · exact Or.inr e
/-! ### tuples -/
theorem catA_any {K : PySem.W.Frag} {H : Hp} {Q : VK} {a b : Addr} {xs ys : List V} (ha : SqT K H a xs) (hb : SqT K H b ys) (hl : xs.length + ys.length ≤ 1000) (k : ∀ p H', Same H H' → SqT K H' p (xs ++ ys) → Q (.ref p) H') : rCatA K (.ref a) (.ref b) H Q := by
  refine ⟨a, b, xs, ys, rfl, rfl, ha, hb, small hl, fun e => ?_, fun _ e => ?_, fun _ _ p hp => k p _ (Same.new hp) (tup_of upd_same)⟩
  · subst e
    exact k b H (Same.refl H) hb
  · subst e
    exact k a H (Same.refl H) (by rw [List.append_nil]; exact ha)
theorem slA_any {K : PySem.W.Frag} {H : Hp} {Q : VK} {a : Addr} {xs : List V} {lo hi : Option Int} (ha : SqT K H a xs) (k : ∀ p H', Same H H' → SqT K H' p (cutV xs lo hi) → Q (.ref p) H') : rSlA K (.ref a) lo hi H Q := by
  refine ⟨a, xs, rfl, ha, fun e => ?_, fun _ p hp => k p _ (Same.new hp) (tup_of upd_same)⟩
  refine k a H (Same.refl H) ?_
  have e2 : cutV xs lo hi = xs := by
    unfold cutV
    rw [e.1, e.2, List.drop_zero, Nat.sub_zero, List.take_length]
  rw [e2]
  exact ha
/-! ### defs by their names -/
structure Df (K : PySem.W.Frag) (mg : Str → Option Value) (x : Str) (st : Stmt) (ps : List Str) : Prop where
  ex : ∃ (f : Addr) (fd : FuncData), Fun K x x st f fd ∧ mg x = some (.ref f) ∧ Binds K fd ps []
section
variable {P : Program} {w : World} {K : PySem.W.Frag} {mg : Str → Option Value} {base : Heap} {x : Str} {st : Stmt} {N ps : List Str} {k : Nat} {sp : Sp}
theorem Kl.by_body (D : Df K mg x st ps) (S : FnScope N ps (defScope st)) (len : ∀ vs H Q E, sp vs H Q E → vs.length = ps.length)
    (hb : ∀ (f : Addr) (cdv : Value) (A : Around) (outer : List Env) (s : Shared) (H : Hp) (vs : List V) (Q : VK) (E : XK), Room k (A.deeper (envOfC x (defScope st) s.heap.objs.size f cdv)) → sp vs H Q E →
      ∃ t, PSs (cxOf CX0 P w K mg base N x (defScope st) f cdv A outer s H E).nox (defBody st) t ∧ t { nx := fun _ H' => Q .non H', rt := Q } (start N vs) H) : Kl P w K mg base (k + 1) x sp := by
  obtain ⟨f, fd, F, hm, b⟩ := D.ex
  exact ⟨f, fd, ps, F.ok S len (hb f), hm, F.kp, b⟩
theorem Kg.by_body (D : Df K mg x st ps) (S : FnScope N ps (defScope st)) (len : ∀ vs H Q E, sp vs H Q E → vs.length = ps.length)
    (hb : ∀ (f : Addr) (cdv : Value) (A : Around) (outer : List Env) (s : Shared) (H : Hp) (vs : List V) (Q : VK) (E : XK), A.guards = some [] → Room k (A.deeper (envOfC x (defScope st) s.heap.objs.size f cdv)) → sp vs H Q E →
      ∃ t, PSs (cxOf CX0 P w K mg base N x (defScope st) f cdv A outer s H E).nox (defBody st) t ∧ t { nx := fun _ H' => Q .non H', rt := Q } (start N vs) H) : Kg P w K mg base (k + 1) x sp := by
  obtain ⟨f, fd, F, hm, b⟩ := D.ex
  exact ⟨f, fd, ps, FnG.by_body F S len (hb f), hm, F.kp, b⟩
theorem df_mk {h : Heap} {f : Addr} {oc : Value} {od an : Option Addr} {osl : Array (Option Value)} {kV doc pm cdv ct : Value} (X : K.In h) (G : h.Ns mainGlobals mg) (a : PySem.W.nsIn K mainGlobals x = some (some (.ref f)))
    (l : K.lookup f = some ⟨oc, od, .func (PySem.W.fnOf x x (defArgs st) (defBody st) (defScope st) .none kV doc pm an cdv ct), osl⟩) (c : PySem.W.codeIn K cdv x = true) (kp : PySem.W.keepIn K (.ref f) = true)
    (hb : ∀ (kV doc pm : Value) (an : Option Addr) (cdv ct : Value) (us : List Value), us.length = ps.length → bindArgs (PySem.W.fnOf x x (defArgs st) (defBody st) (defScope st) .none kV doc pm an cdv ct) ⟨us, []⟩ = pure (ps.zip us)) : Df K mg x st ps :=
  ⟨f, _, fun_mk l c kp, PySem.W.mg_of X G a, (fun_mk l c kp).binds hb⟩
theorem law_fd {h : Heap} {fa f : Addr} {j : Nat} {oc : Value} {od an : Option Addr} {osl : Array (Option Value)} {kV doc pm cdv ct : Value} (X : K.In h) (G : h.Ns mainGlobals mg) (hfa : mg "law" = some (.ref fa)) (a : PySem.W.nsIn K mainGlobals "law" = some (some (.ref f)))
    (l : K.lookup f = some ⟨oc, od, .func (PySem.W.fnOf "law" "law" (defArgs st) (defBody st) (defScope st) .none kV doc pm an cdv ct), osl⟩) (c : PySem.W.codeIn K cdv "law" = true) (kp : PySem.W.keepIn K (.ref f) = true)
    (hb : ∀ (kV doc pm : Value) (an : Option Addr) (cdv ct : Value) (us : List Value), us.length = 1 → bindArgs (PySem.W.fnOf "law" "law" (defArgs st) (defBody st) (defScope st) .none kV doc pm an cdv ct) ⟨us, []⟩ = pure ((["script"] : List Str).zip us))
    (go : ∀ fd, Fun K "law" "law" st fa fd → ∀ base : Heap, FnG P w K mg base j fa fd ["script"] sp) :
    ∃ fd : FuncData, (∀ (s : Shared) (u : Value), BindsTo s fd ⟨[u], []⟩ [("script", u)]) ∧ ∀ base : Heap, K.In base → base.Ns mainGlobals mg → FnG P w K mg base j fa fd ["script"] sp := by
  have e := hfa.symm.trans (PySem.W.mg_of X G a)
  cases e
  exact ⟨_, fun s u => .of_eq (hb kV doc pm an cdv ct [u] rfl), fun base _ _ => go _ (fun_mk l c kp) base⟩
end
end Gd
set_option linter.all false
/-! fractions: plain Lean -/
namespace QM
/-- n / d in lowest terms -/
def sg (n d : Int) : Int := if d < 0 then -((Nat.gcd n.natAbs d.natAbs : Nat) : Int) else ((Nat.gcd n.natAbs d.natAbs : Nat) : Int)
theorem sg_ne {n d : Int} (h : d ≠ 0) : sg n d ≠ 0 := by
  have hp : 0 < Nat.gcd n.natAbs d.natAbs := Nat.gcd_pos_of_pos_right _ (by omega)
  unfold sg
  split <;> omega
theorem fdiv_neg' (a b : Int) : (-a).fdiv (-b) = a.fdiv b := by
  exact Int.neg_fdiv_neg a b
theorem fr_num {n d : Int} (h : d ≠ 0) : n.fdiv (sg n d) = (Rat.divInt n d).num := by
  rw [Rat.num_divInt]
  unfold sg
  have g0 : ((Int.gcd d n : Nat) : Int) = ((Nat.gcd n.natAbs d.natAbs : Nat) : Int) := by rw [Int.gcd_comm]; rfl
  split
  · rename_i e
    rw [Int.sign_eq_neg_one_of_neg e, g0, Int.neg_mul, Int.one_mul]
    have e1 : n.fdiv (-((Nat.gcd n.natAbs d.natAbs : Nat) : Int)) = (-n).fdiv ((Nat.gcd n.natAbs d.natAbs : Nat) : Int) := by
      rw [← fdiv_neg' n, Int.neg_neg]
    rw [e1, Int.fdiv_eq_ediv_of_nonneg _ (by omega)]
  · rename_i e
    rw [Int.sign_eq_one_of_pos (by omega), g0, Int.one_mul, Int.fdiv_eq_ediv_of_nonneg _ (by omega)]
theorem fr_den {n d : Int} (h : d ≠ 0) : d.fdiv (sg n d) = ((Rat.divInt n d).den : Int) := by
  rw [Rat.den_divInt, if_neg h]
  have g0 : Int.gcd d n = Nat.gcd n.natAbs d.natAbs := by rw [Int.gcd_comm]; rfl
  rw [g0]
  unfold sg
  split
  · rename_i e
    have e1 : d.fdiv (-((Nat.gcd n.natAbs d.natAbs : Nat) : Int)) = (-d).fdiv ((Nat.gcd n.natAbs d.natAbs : Nat) : Int) := by
      rw [← fdiv_neg' d, Int.neg_neg]
    rw [e1, Int.fdiv_eq_ediv_of_nonneg _ (by omega), Int.natCast_ediv]
    congr 1
    omega
  · rename_i e
    rw [Int.fdiv_eq_ediv_of_nonneg _ (by omega), Int.natCast_ediv]
    congr 1
    omega
theorem den_ne (a : Rat) : (a.den : Int) ≠ 0 := by
  have := a.den_nz
  omega
theorem denR (a : Rat) : ((a.den : Int) : Rat) ≠ 0 := by
  intro h
  exact den_ne a (by exact_mod_cast h)
theorem as_div (a : Rat) : a = (a.num : Rat) / ((a.den : Int) : Rat) := by
  rw [← Rat.divInt_eq_div, Rat.num_divInt_den]
theorem fr_add (a b : Rat) : Rat.divInt (a.num * b.den + b.num * a.den) (a.den * b.den) = a + b := by
  have ha := denR a
  have hb := denR b
  have ea := as_div a
  have eb := as_div b
  rw [Rat.divInt_eq_div, Rat.intCast_add, Rat.intCast_mul, Rat.intCast_mul, Rat.intCast_mul]
  grind
theorem fr_sub (a b : Rat) : Rat.divInt (a.num * b.den - b.num * a.den) (a.den * b.den) = a - b := by
  have ha := denR a
  have hb := denR b
  have ea := as_div a
  have eb := as_div b
  rw [Rat.divInt_eq_div, Rat.intCast_sub, Rat.intCast_mul, Rat.intCast_mul, Rat.intCast_mul]
  grind
theorem fr_mul (a b : Rat) : Rat.divInt (a.num * b.num) (a.den * b.den) = a * b := by
  have ha := denR a
  have hb := denR b
  have ea := as_div a
  have eb := as_div b
  rw [Rat.divInt_eq_div, Rat.intCast_mul, Rat.intCast_mul]
  grind
theorem num_ne {a : Rat} (h : a ≠ 0) : a.num ≠ 0 := fun e => h (Rat.num_eq_zero.mp e)
theorem fr_div (a b : Rat) (h : b ≠ 0) : Rat.divInt (a.num * b.den) (a.den * b.num) = a / b := by
  have ha := denR a
  have hb := denR b
  have ea := as_div a
  have eb := as_div b
  have hn : (b.num : Rat) ≠ 0 := fun e => num_ne h (by exact_mod_cast e)
  rw [Rat.divInt_eq_div, Rat.intCast_mul, Rat.intCast_mul]
  grind
theorem mul_ne {a b : Int} (h : a ≠ 0) (k : b ≠ 0) : a * b ≠ 0 := Int.mul_ne_zero h k
/-! sizes -/
def RB (n : Nat) (q : Rat) : Prop := q.num.natAbs < 2 ^ n ∧ (q.den : Int).natAbs < 2 ^ n
theorem RB.up {m n : Nat} {q : Rat} (h : RB m q) (k : m ≤ n) : RB n q := ⟨Nat.lt_of_lt_of_le h.1 (Nat.pow_le_pow_right (by decide) k), Nat.lt_of_lt_of_le h.2 (Nat.pow_le_pow_right (by decide) k)⟩
theorem dv_le {x g : Int} (h : g ≠ 0) (d : g ∣ x) : (x.fdiv g).natAbs ≤ x.natAbs := by
  obtain ⟨k, rfl⟩ := d
  rw [Int.mul_fdiv_cancel_left k h, Int.natAbs_mul]
  have h1 : 1 ≤ g.natAbs := by omega
  have h2 : 1 * k.natAbs ≤ g.natAbs * k.natAbs := Nat.mul_le_mul_right _ h1
  omega
theorem sg_dvd (n d : Int) : sg n d ∣ n := by
  have h : ((Nat.gcd n.natAbs d.natAbs : Nat) : Int) ∣ n := Int.ofNat_dvd_left.mpr (Nat.gcd_dvd_left _ _)
  unfold sg
  split
  · exact Int.neg_dvd.mpr h
  · exact h
theorem sg_dvd2 (n d : Int) : sg n d ∣ d := by
  have h : ((Nat.gcd n.natAbs d.natAbs : Nat) : Int) ∣ d := Int.ofNat_dvd_left.mpr (Nat.gcd_dvd_right _ _)
  unfold sg
  split
  · exact Int.neg_dvd.mpr h
  · exact h
theorem RB.of {m : Nat} {n d : Int} (h : d ≠ 0) (hn : n.natAbs < 2 ^ m) (hd : d.natAbs < 2 ^ m) : RB m (Rat.divInt n d) := by
  unfold RB
  rw [← fr_num h, ← fr_den (n := n) h]
  exact ⟨Nat.lt_of_le_of_lt (dv_le (sg_ne h) (sg_dvd n d)) hn, Nat.lt_of_le_of_lt (dv_le (sg_ne h) (sg_dvd2 n d)) hd⟩
theorem pmul {m n a b : Nat} (ha : a < 2 ^ m) (hb : b < 2 ^ n) : a * b < 2 ^ (m + n) := by
  rw [Nat.pow_add]
  rcases Nat.eq_zero_or_pos b with h | h
  · subst h
    rw [Nat.mul_zero]
    exact Nat.mul_pos (Nat.two_pow_pos m) (Nat.two_pow_pos n)
  · exact Nat.mul_lt_mul_of_lt_of_le ha (Nat.le_of_lt hb) (Nat.two_pow_pos n)
theorem RB.add {m n : Nat} {a b : Rat} (ha : RB m a) (hb : RB n b) : RB (m + n + 1) (a + b) := by
  rw [← fr_add]
  have h1 := pmul ha.1 hb.2
  have h2 := pmul ha.2 hb.1
  have h3 := pmul ha.2 hb.2
  refine RB.of (mul_ne (den_ne a) (den_ne b)) ?_ ?_
  · rw [Nat.pow_succ]
    have h4 : (a.num * ↑b.den + b.num * ↑a.den).natAbs ≤ (a.num * ↑b.den).natAbs + (b.num * ↑a.den).natAbs := Int.natAbs_add_le _ _
    rw [Int.natAbs_mul, Int.natAbs_mul, Nat.mul_comm b.num.natAbs] at h4
    omega
  · rw [Nat.pow_succ, Int.natAbs_mul]
    omega
theorem RB.neg {m : Nat} {a : Rat} (ha : RB m a) : RB m (-a) := by
  unfold RB at *
  rw [Rat.neg_num, Rat.neg_den, Int.natAbs_neg]
  exact ha
theorem RB.sub {m n : Nat} {a b : Rat} (ha : RB m a) (hb : RB n b) : RB (m + n + 1) (a - b) := by
  rw [Rat.sub_eq_add_neg]
  exact ha.add hb.neg
theorem RB.mul {m n : Nat} {a b : Rat} (ha : RB m a) (hb : RB n b) : RB (m + n) (a * b) := by
  rw [← fr_mul]
  refine RB.of (mul_ne (den_ne a) (den_ne b)) ?_ ?_
  · rw [Int.natAbs_mul]
    exact pmul ha.1 hb.1
  · rw [Int.natAbs_mul]
    exact pmul ha.2 hb.2
theorem RB.div {m n : Nat} {a b : Rat} (h : b ≠ 0) (ha : RB m a) (hb : RB n b) : RB (m + n) (a / b) := by
  rw [← fr_div a b h]
  refine RB.of (mul_ne (den_ne a) (num_ne h)) ?_ ?_
  · rw [Int.natAbs_mul]
    exact pmul ha.1 hb.2
  · rw [Int.natAbs_mul]
    exact pmul ha.2 hb.1
theorem RB.int {m : Nat} {n : Int} (h : n.natAbs < 2 ^ m) (k : 1 ≤ m) : RB m (n : Rat) := by
  unfold RB
  rw [Rat.num_intCast, Rat.den_intCast]
  exact ⟨h, Nat.lt_of_lt_of_le (by decide : 1 < 2 ^ 1) (Nat.pow_le_pow_right (by decide) k)⟩
theorem RB.pow {m : Nat} {a : Rat} (ha : RB m a) : ∀ k : Nat, RB (m * k + 1) (a ^ k)
  | 0 => by
    rw [Rat.pow_zero]
    exact RB.int (n := 1) (by rw [Nat.mul_zero]; decide) (by omega)
  | k + 1 => by
    rw [Rat.pow_succ]
    exact (RB.mul (RB.pow ha k) ha).up (by rw [Nat.mul_succ]; omega)
/-! powers -/
theorem npow (a : Rat) (k : Nat) : (a ^ k).num = a.num ^ k := Rat.num_pow a k
theorem dpow (a : Rat) (k : Nat) : (a ^ k).den = a.den ^ k := Rat.den_pow a k
theorem le_npow (a : Nat) {k : Nat} (h : 1 ≤ k) : a ≤ a ^ k := by
  rcases Nat.eq_zero_or_pos a with e | e
  · omega
  · calc a = a ^ 1 := (Nat.pow_one a).symm
      _ ≤ a ^ k := Nat.pow_le_pow_right e h
theorem RB.root {m k : Nat} {a : Rat} (h : 1 ≤ k) (ha : RB m (a ^ k)) : RB m a := by
  unfold RB at *
  rw [npow, dpow, Int.natAbs_pow] at ha
  refine ⟨Nat.lt_of_le_of_lt (le_npow _ h) ha.1, ?_⟩
  have e : ((a.den ^ k : Nat) : Int).natAbs = a.den ^ k := Int.natAbs_natCast _
  rw [e] at ha
  rw [Int.natAbs_natCast]
  exact Nat.lt_of_le_of_lt (le_npow _ h) ha.2
theorem num_pos {a : Rat} (h : 0 < a) : 0 < a.num := by
  have h1 : 0 ≤ a.num := Rat.num_nonneg.mpr (Rat.le_of_lt h)
  have h2 : a.num ≠ 0 := num_ne (fun e => by rw [e] at h; exact absurd h (by decide))
  omega
end QM
set_option Elab.async false
set_option linter.all false
set_option maxRecDepth 100000
/-! fractions as pairs of ints; promises of the sums -/
namespace Gd
open PySem PySem.Spec PyProof.Rows L2 QM
/-- // by any divisor but 0, below 2 ^ 9000 -/
def CDivAny (_ j : Int) : Prop := j ≠ 0 ∧ j.natAbs.log2 < 9000
theorem op_fdivAny {X : Cx} : OpR X (binaryOp .FloorDiv) (rI CDivAny fun i j => .int (i.fdiv j)) := opI fun _ _ _ _ _ _ _ hc q => floordiv_int hc.1 q (.inl (PyProof.noPylong_of_log2 hc.2))
theorem B.log9 {n : Nat} {x : Int} (hx : B n x) (h : n ≤ 8900) : x.natAbs.log2 < 9000 := by
  have h1 : x.natAbs < 2 ^ 8901 := hx.up (by omega)
  exact PySem.Flt.log2_lt_of (by decide) (Nat.lt_of_lt_of_le h1 (Nat.pow_le_pow_right (by decide) (by decide)))
theorem div_any {m : Nat} {i j : Int} (h : j ≠ 0) (hb : B m j) (hm : m ≤ 8900) : CDivAny i j := ⟨h, hb.log9 hm⟩
theorem gcd_B {m : Nat} {n d : Int} (h : d ≠ 0) (hb : B m d) : B m ((Nat.gcd n.natAbs d.natAbs : Nat) : Int) := by
  unfold B at *
  have h1 : Nat.gcd n.natAbs d.natAbs ≤ d.natAbs := Nat.gcd_le_right _ (by omega)
  omega
theorem sg_B {m : Nat} {n d : Int} (h : d ≠ 0) (hb : B m d) : B m (sg n d) := by
  unfold sg
  split
  · exact (gcd_B h hb).neg
  · exact gcd_B h hb
/-- a fraction's pair -/
def fq (q : Rat) : List V := [.int q.num, .int (q.den : Int)]
theorem fq_div {n d : Int} (h : d ≠ 0) : [V.int (n.fdiv (sg n d)), V.int (d.fdiv (sg n d))] = fq (Rat.divInt n d) := by
  unfold fq
  rw [fr_num h, fr_den h]
theorem fq_int (n : Int) : fq (n : Rat) = [.int n, .int 1] := by
  unfold fq
  rw [Rat.num_intCast, Rat.den_intCast]
  rfl
theorem fq_inj {a b : Rat} (h : fq a = fq b) : a = b := by
  unfold fq at h
  simp only [List.cons.injEq, V.int.injEq, and_true] at h
  exact Rat.ext h.1 (by omega)
def dq (q : Rat) : PyData := .tuple [.int q.num, .int (q.den : Int)]
theorem dp_q {K : PySem.W.Frag} {H : Hp} {p : Addr} {q : Rat} (h : SqT K H p (fq q)) : Dp K H (.ref p) (dq q) := .tup h (.cons (.int _) (.cons (.int _) .nil))
theorem dq_inj {a b : Rat} : dq a = dq b ↔ a = b := by
  constructor
  · intro h
    unfold dq at h
    simp only [PyData.tuple.injEq, List.cons.injEq, PyData.int.injEq, and_true] at h
    exact Rat.ext h.1 (by omega)
  · rintro rfl
    rfl
theorem _root_.QM.RB.n {m : Nat} {q : Rat} (h : RB m q) : B m q.num := h.1
theorem _root_.QM.RB.d {m : Nat} {q : Rat} (h : RB m q) : B m (q.den : Int) := h.2
theorem okq {m : Nat} {q : Rat} (h : RB m q) (k : m ≤ 1900) : okD (dq q) = true := by
  have h1 := B.log (RB.n h) k
  have h2 := B.log (RB.d h) k
  unfold dq
  rw [okD, okAll, okAll, okAll, okD, okD]
  rw [decide_eq_true h1, decide_eq_true h2]
  rfl
def spCut (K : PySem.W.Frag) : Sp := fun vs H Q _ => ∃ n d : Int, vs = [.int n, .int d] ∧ d ≠ 0 ∧ B 8200 n ∧ B 8200 d ∧ ∀ t, H t = none → Q (.ref t) (upd H t (.tup (fq (Rat.divInt n d))))
def spBin (ok : Rat → Rat → Prop) (op : Rat → Rat → Rat) (K : PySem.W.Frag) : Sp := fun vs H Q _ => ∃ (f g : Addr) (a b : Rat), vs = [.ref f, .ref g] ∧ SqT K H f (fq a) ∧ SqT K H g (fq b) ∧ RB 4000 a ∧ RB 4000 b ∧ ok a b ∧ ∀ t, H t = none → Q (.ref t) (upd H t (.tup (fq (op a b))))
/-- a list of fractions -/
def FrL (K : PySem.W.Frag) (H : Hp) (m : Nat) (ps : List (Addr × Rat)) : Prop := ∀ p ∈ ps, SqT K H p.1 (fq p.2) ∧ RB m p.2
def spSum (op : Rat → Rat → Rat) (e : Rat) (K : PySem.W.Frag) : Sp := fun vs H Q _ => ∃ (l : Addr) (ps : List (Addr × Rat)) (m : Nat), vs = [.ref l] ∧ SqL K H l (ps.map fun p => .ref p.1) ∧ FrL K H m ps ∧ ps.length * (m + 1) ≤ 3900 ∧ ∀ H' t, Same H H' → H t = none → H' t = some (.tup (fq (ps.foldl (fun x p => op x p.2) e))) → RB (ps.length * (m + 1) + 1) (ps.foldl (fun x p => op x p.2) e) → Q (.ref t) H'
/-- a list that is being made of the fractions of ints -/
def FrD (H : Hp) (D : Addr) (ns : List Int) (i : Nat) : Prop := ∃ L : List Addr, H D = some (.lst (L.map V.ref)) ∧ L.length = i ∧ ∀ (j : Nat) (p : Addr), L[j]? = some p → ∃ n : Int, ns[j]? = some n ∧ H p = some (.tup (fq (n : Rat)))
theorem FrD.new {H : Hp} {D : Addr} {ns : List Int} : FrD (upd H D (.lst [])) D ns 0 := ⟨[], upd_same, rfl, fun j p h => by simp at h⟩
theorem FrD.push {H : Hp} {D t : Addr} {ns : List Int} {i : Nat} {n : Int} (h : FrD H D ns i) (hi : ns[i]? = some n) (nt : H t = none) (hl : i < 1000) :
    ∃ acc, (upd H t (.tup (fq (n : Rat)))) D = some (.lst acc) ∧ acc.length < sizeLine ∧ FrD (upd (upd H t (.tup (fq (n : Rat)))) D (.lst (acc ++ [.ref t]))) D ns (i + 1) := by
  obtain ⟨L, h1, h2, h3⟩ := h
  have hDt : D ≠ t := ne_of_none h1 nt
  refine ⟨L.map V.ref, by rw [upd_ne hDt]; exact h1, by rw [List.length_map]; exact small1000 (by omega), L ++ [t], ?_, by rw [List.length_append, h2]; rfl, fun j p hj => ?_⟩
  · rw [upd_same, List.map_append]
    rfl
  · rcases Nat.lt_or_ge j L.length with z | z
    · rw [List.getElem?_append_left z] at hj
      obtain ⟨m, hm, hp⟩ := h3 j p hj
      refine ⟨m, hm, ?_⟩
      have hpD : p ≠ D := ne_of hp h1 (by intro z; cases z)
      rw [upd_ne hpD, upd_ne (ne_of_none hp nt)]
      exact hp
    · rw [List.getElem?_append_right z] at hj
      have e : j - L.length = 0 := by
        rcases Nat.eq_zero_or_pos (j - L.length) with q | q
        · exact q
        · rw [List.getElem?_eq_none (by simp; omega)] at hj
          cases hj
      rw [e] at hj
      obtain rfl := Option.some.inj hj
      have ej : j = i := by omega
      refine ⟨n, by rw [ej]; exact hi, ?_⟩
      rw [upd_ne (fun q => hDt q.symm), upd_same]
theorem FrD.five {H : Hp} {D : Addr} {a b c d e : Int} (h : FrD H D [a, b, c, d, e] 5) : ∃ p1 p2 p3 p4 p5, H D = some (.lst [.ref p1, .ref p2, .ref p3, .ref p4, .ref p5]) ∧ H p1 = some (.tup (fq (a : Rat))) ∧ H p2 = some (.tup (fq (b : Rat))) ∧ H p3 = some (.tup (fq (c : Rat))) ∧ H p4 = some (.tup (fq (d : Rat))) ∧ H p5 = some (.tup (fq (e : Rat))) := by
  obtain ⟨L, h1, h2, h3⟩ := h
  match L, h2 with
  | [p1, p2, p3, p4, p5], _ =>
    have g : ∀ (j : Nat) (p : Addr) (n : Int), [p1, p2, p3, p4, p5][j]? = some p → [a, b, c, d, e][j]? = some n → H p = some (.tup (fq (n : Rat))) := fun j p n x y => by
      obtain ⟨m, hm, hp⟩ := h3 j p x
      rw [y] at hm
      obtain rfl := Option.some.inj hm
      exact hp
    exact ⟨p1, p2, p3, p4, p5, h1, g 0 _ _ rfl rfl, g 1 _ _ rfl rfl, g 2 _ _ rfl rfl, g 3 _ _ rfl rfl, g 4 _ _ rfl rfl⟩
/-! what stands of fractions in the heap -/
def FrE (K : PySem.W.Frag) (H : Hp) (es : List (Addr × Rat × Nat)) : Prop := ∀ x ∈ es, SqT K H x.1 (fq x.2.1) ∧ RB x.2.2 x.2.1
section
variable {K : PySem.W.Frag} {H H' : Hp} {es : List (Addr × Rat × Nat)} {p r : Addr} {a b : Rat} {m n : Nat} {Q : VK} {Z : XK}
theorem FrE.nil : FrE K H [] := fun x h => by cases h
theorem FrE.same (h : FrE K H es) (s : Same H H') : FrE K H' es := fun x k => ⟨Same.tup s (h x k).1, (h x k).2⟩
theorem FrE.get (h : FrE K H es) (k : (p, a, m) ∈ es) : SqT K H p (fq a) := (h _ k).1
theorem FrE.rb (h : FrE K H es) (k : (p, a, m) ∈ es) : RB m a := (h _ k).2
theorem FrE.add (h : FrE K H es) (k : SqT K H p (fq a)) (b : RB m a) : FrE K H ((p, a, m) :: es) := fun x z => by
  rcases List.mem_cons.mp z with rfl | z
  · exact ⟨k, b⟩
  · exact h x z
theorem FrE.re (h : FrE K H ((p, a, m) :: es)) (e : a = b) (k : RB n b) : FrE K H ((p, b, n) :: es) := fun x z => by
  subst e
  rcases List.mem_cons.mp z with rfl | z
  · exact ⟨(h _ List.mem_cons_self).1, k⟩
  · exact h x (List.mem_cons_of_mem _ z)
theorem FrE.sub {fs : List (Addr × Rat × Nat)} (h : FrE K H es) (k : ∀ x ∈ fs, x ∈ es) : FrE K H fs := fun x z => h x (k x z)
theorem stepE (E : FrE K H es) {t : Addr} (n : H t = none) {c : Rat} {k : Nat} (hb : RB k c) : ∃ H', upd H t (.tup (fq c)) = H' ∧ Same H H' ∧ FrE K H' ((t, c, k) :: es) :=
  ⟨_, rfl, Same.new n, (E.same (Same.new n)).add (tup_of upd_same) hb⟩
theorem litE (E : FrE K H es) {t : Addr} (n : H t = none) {vs : List V} {c : Rat} {k : Nat} (e : vs = fq c) (hb : RB k c) : ∃ H', upd H t (.tup vs) = H' ∧ Same H H' ∧ FrE K H' ((t, c, k) :: es) := by
  subst e
  exact stepE E n hb
theorem FrL.nil {M : Nat} : FrL K H M [] := fun x h => by cases h
theorem FrL.cons {M : Nat} {ps : List (Addr × Rat)} (E : FrE K H es) (k : (p, a, m) ∈ es) (hm : m ≤ M) (h : FrL K H M ps) : FrL K H M ((p, a) :: ps) := fun x z => by
  rcases List.mem_cons.mp z with rfl | z
  · exact ⟨E.get k, (E.rb k).up hm⟩
  · exact h x z
end
mutual
theorem dp_same {K : PySem.W.Frag} {H H' : Hp} (s : Same H H') : ∀ (d : PyData) (v : V), Dp K H v d → Dp K H' v d
  | .none, _, h => by
    cases h
    exact .non
  | .bool _, _, h => by
    cases h
    exact .bl _
  | .int _, _, h => by
    cases h
    exact .int _
  | .str _, _, h => by
    cases h
    exact .str _
  | .list ds, _, h => by
    cases h with
    | lst h1 h2 => exact .lst (s.seq h1) (dp_sameAll s ds _ h2)
  | .tuple ds, _, h => by
    cases h with
    | tup h1 h2 => exact .tup (Same.tup s h1) (dp_sameAll s ds _ h2)
  | .dict _, _, h => by cases h
theorem dp_sameAll {K : PySem.W.Frag} {H H' : Hp} (s : Same H H') : ∀ (ds : List PyData) (vs : List V), DpAll K H vs ds → DpAll K H' vs ds
  | [], _, h => by
    cases h
    exact .nil
  | d :: ds, _, h => by
    cases h with
    | cons h1 h2 => exact .cons (dp_same s d _ h1) (dp_sameAll s ds _ h2)
end
/-- a list's cell is no tuple's -/
theorem tup_put {K : PySem.W.Frag} {H : Hp} {D p : Addr} {L xs : List V} {o : HO} (hD : H D = some (.lst L)) (e : SqT K H p xs) : SqT K (upd H D o) p xs := by
  rcases e with (e | ⟨z, e⟩) | e
  · refine Or.inl (Or.inl ?_)
    rw [upd_ne (ne_of e hD (by intro z; cases z))]
    exact e
  · refine Or.inl (Or.inr ⟨z, ?_⟩)
    rw [upd_ne (ne_of e hD (by intro z; cases z))]
    exact e
  · exact Or.inr e
mutual
def noL : PyData → Bool
  | .list _ => false
  | .tuple ds => noLAll ds
  | .dict _ => false
  | _ => true
def noLAll : List PyData → Bool
  | [] => true
  | d :: ds => noL d && noLAll ds
end
mutual
theorem dp_put {K : PySem.W.Frag} {H : Hp} {D : Addr} {L : List V} {o : HO} (hD : H D = some (.lst L)) : ∀ (d : PyData) (v : V), noL d = true → Dp K H v d → Dp K (upd H D o) v d
  | .none, _, _, h => by
    cases h
    exact .non
  | .bool _, _, _, h => by
    cases h
    exact .bl _
  | .int _, _, _, h => by
    cases h
    exact .int _
  | .str _, _, _, h => by
    cases h
    exact .str _
  | .list ds, _, n, h => by
    rw [noL] at n
    cases n
  | .tuple ds, _, n, h => by
    rw [noL] at n
    cases h with
    | tup h1 h2 => exact .tup (tup_put hD h1) (dp_putAll hD ds _ n h2)
  | .dict _, _, _, h => by cases h
theorem dp_putAll {K : PySem.W.Frag} {H : Hp} {D : Addr} {L : List V} {o : HO} (hD : H D = some (.lst L)) : ∀ (ds : List PyData) (vs : List V), noLAll ds = true → DpAll K H vs ds → DpAll K (upd H D o) vs ds
  | [], _, _, h => by
    cases h
    exact .nil
  | d :: ds, _, n, h => by
    rw [noLAll, Bool.and_eq_true] at n
    cases h with
    | cons h1 h2 => exact .cons (dp_put hD d _ n.1 h1) (dp_putAll hD ds _ n.2 h2)
end
end Gd
set_option linter.all false
/-! roots: plain Lean -/
namespace QM
theorem dvd_pow' (a : Nat) {k : Nat} (h : k ≠ 0) : a ∣ a ^ k := by
  obtain ⟨j, rfl⟩ := Nat.exists_eq_succ_of_ne_zero h
  rw [Nat.pow_succ]
  exact Nat.dvd_mul_left a _
theorem ipow_le {a b : Int} (ha : 0 ≤ a) (h : a ≤ b) (k : Nat) : a ^ k ≤ b ^ k := by
  have h1 : a.natAbs ^ k ≤ b.natAbs ^ k := Nat.pow_le_pow_left (by omega) k
  rw [← Int.natAbs_pow, ← Int.natAbs_pow] at h1
  have h2 : 0 ≤ a ^ k := Int.pow_nonneg ha
  have h3 : 0 ≤ b ^ k := Int.pow_nonneg (by omega)
  omega
theorem pow_inj {a b k : Nat} (h : k ≠ 0) (e : a ^ k = b ^ k) : a = b := by
  rcases Nat.lt_trichotomy a b with x | x | x
  · have := Nat.pow_lt_pow_left x h
    omega
  · exact x
  · have := Nat.pow_lt_pow_left x h
    omega
theorem ipow_inj {a b : Int} {k : Nat} (h : k ≠ 0) (ha : 0 ≤ a) (hb : 0 ≤ b) (e : a ^ k = b ^ k) : a = b := by
  have h1 : a.natAbs ^ k = b.natAbs ^ k := by rw [← Int.natAbs_pow, ← Int.natAbs_pow, e]
  have := pow_inj h h1
  omega
theorem qpow_inj {a b : Rat} {k : Nat} (h : k ≠ 0) (ha : 0 < a) (hb : 0 < b) (e : a ^ k = b ^ k) : a = b := by
  have h1 := num_pos ha
  have h2 := num_pos hb
  have e1 : a.num ^ k = b.num ^ k := by rw [← npow, ← npow, e]
  have e2 : a.den ^ k = b.den ^ k := by rw [← dpow, ← dpow, e]
  exact Rat.ext (ipow_inj h (by omega) (by omega) e1) (pow_inj h e2)
/-- the root of a fraction from those of its parts -/
theorem rootQ {k : Nat} (hk : k ≠ 0) {q : Rat} {s t : Int} (hs0 : 0 < s) (ht0 : 0 < t) (hs : s ^ k = q.num) (ht : t ^ k = (q.den : Int)) : ∃ r : Rat, 0 < r ∧ r ^ k = q ∧ r.num = s ∧ (r.den : Int) = t := by
  have e1 : s.natAbs ^ k = q.num.natAbs := by rw [← Int.natAbs_pow, hs]
  have e2 : t.natAbs ^ k = q.den := by
    have h : (t ^ k).natAbs = ((q.den : Int)).natAbs := by rw [ht]
    rw [Int.natAbs_pow, Int.natAbs_natCast] at h
    exact h
  have hc : Nat.Coprime s.natAbs t.natAbs := by
    have c : Nat.Coprime (s.natAbs ^ k) (t.natAbs ^ k) := by
      rw [e1, e2]
      exact q.reduced
    have d1 : s.natAbs ∣ s.natAbs ^ k := dvd_pow' _ hk
    have d2 : t.natAbs ∣ t.natAbs ^ k := dvd_pow' _ hk
    exact Nat.Coprime.coprime_dvd_left d1 (Nat.Coprime.coprime_dvd_right d2 c)
  have hz : t.natAbs ≠ 0 := by omega
  refine ⟨⟨s, t.natAbs, hz, hc⟩, ?_, ?_, rfl, by show ((t.natAbs : Nat) : Int) = t; omega⟩
  · have h1 : (0 : Rat) ≤ ⟨s, t.natAbs, hz, hc⟩ := Rat.num_nonneg.mp (by show 0 ≤ s; omega)
    have h2 : (⟨s, t.natAbs, hz, hc⟩ : Rat) ≠ 0 := fun e => by
      have h3 : s = 0 := congrArg Rat.num e
      omega
    exact Rat.lt_of_le_of_ne h1 (fun e => h2 e.symm)
  · refine Rat.ext ?_ ?_
    · rw [npow]
      exact hs
    · rw [dpow]
      exact e2
/-- Newton's step -/
theorem mono {r s : Int} (hr : 0 ≤ r) (hs : 0 ≤ s) (k : Nat) : r * s ^ k + s * r ^ k ≤ r * r ^ k + s * s ^ k := by
  have key : 0 ≤ (r ^ k - s ^ k) * (r - s) := by
    rcases Int.le_total r s with h | h
    · have h1 : r ^ k ≤ s ^ k := ipow_le hr h k
      have := Int.mul_nonneg (show 0 ≤ s ^ k - r ^ k by omega) (show 0 ≤ s - r by omega)
      grind
    · have h1 : s ^ k ≤ r ^ k := ipow_le hs h k
      exact Int.mul_nonneg (by omega) (by omega)
  grind
theorem amgm {r s : Int} (hr : 0 ≤ r) (hs : 0 ≤ s) : ∀ k : Nat, ((k : Int) + 1) * s * r ^ k ≤ (k : Int) * (r * r ^ k) + s * s ^ k
  | 0 => by simp
  | k + 1 => by
    have h1 := amgm hr hs k
    have h2 := mono hr hs (k + 1)
    have h3 := Int.mul_le_mul_of_nonneg_left h1 hr
    rw [Int.pow_succ, Int.pow_succ] at *
    push_cast
    grind
theorem newton_ge {n r s : Int} {k : Nat} (hr : 1 ≤ r) (hs : 0 ≤ s) (h : s ^ (k + 1) ≤ n) : s ≤ ((k : Int) * r + n.fdiv (r ^ k)).fdiv ((k : Int) + 1) := by
  have hp : 0 < r ^ k := Int.pow_pos (by omega)
  have h1 := amgm (show 0 ≤ r by omega) hs k
  rw [Int.pow_succ] at h
  rw [Int.fdiv_eq_ediv_of_nonneg _ (Int.le_of_lt hp), Int.fdiv_eq_ediv_of_nonneg _ (by omega)]
  rw [Int.le_ediv_iff_mul_le (by omega)]
  have h2 : ((k : Int) + 1) * s - k * r ≤ n / r ^ k := by
    rw [Int.le_ediv_iff_mul_le hp]
    grind
  grind
theorem newton_le {n r : Int} {k : Nat} (hr : 1 ≤ r) (h : r ≤ ((k : Int) * r + n.fdiv (r ^ k)).fdiv ((k : Int) + 1)) : r ^ (k + 1) ≤ n := by
  have hp : 0 < r ^ k := Int.pow_pos (by omega)
  rw [Int.fdiv_eq_ediv_of_nonneg _ (Int.le_of_lt hp), Int.fdiv_eq_ediv_of_nonneg _ (by omega)] at h
  rw [Int.le_ediv_iff_mul_le (by omega)] at h
  have h2 : r ≤ n / r ^ k := by grind
  rw [Int.le_ediv_iff_mul_le hp] at h2
  rw [Int.pow_succ]
  grind
theorem start_ge {n s : Int} {k b : Nat} (hs : 0 ≤ s) (hb : n.natAbs < 2 ^ b) (hk : 0 < k) (h : s ^ k ≤ n) : s ≤ 1 * 2 ^ (b / k + 1) := by
  rw [Int.one_mul]
  rcases Int.le_total s (2 ^ (b / k + 1)) with z | z
  · exact z
  · exfalso
    have h1 : ((2 : Int) ^ (b / k + 1)) ^ k ≤ s ^ k := ipow_le (Int.le_of_lt (Int.pow_pos (by decide))) z k
    rw [← Int.pow_mul] at h1
    have h2 : b ≤ (b / k + 1) * k := by
      have := Nat.lt_div_mul_add (a := b) hk
      rw [Nat.add_mul, Nat.one_mul]
      omega
    have h3 : (2 : Nat) ^ b ≤ 2 ^ ((b / k + 1) * k) := Nat.pow_le_pow_right (by decide) h2
    have h4 : ((2 ^ b : Nat) : Int) ≤ ((2 ^ ((b / k + 1) * k) : Nat) : Int) := Int.ofNat_le.mpr h3
    rw [Int.natCast_pow, Int.natCast_pow] at h4
    have h5 : ((n.natAbs : Nat) : Int) < ((2 ^ b : Nat) : Int) := Int.ofNat_lt.mpr hb
    rw [Int.natCast_pow] at h5
    have e2 : ((2 : Nat) : Int) = 2 := rfl
    rw [e2] at h4 h5
    omega
theorem small_root {n s : Int} {k : Nat} (hs : 0 ≤ s) (hk : 1 ≤ k) (h : s ^ k ≤ n) : s ≤ n := by
  have h1 := le_npow s.natAbs hk
  have h2 : (s ^ k).natAbs = s.natAbs ^ k := Int.natAbs_pow s k
  have h3 : 0 ≤ s ^ k := Int.pow_nonneg hs
  omega
theorem pow01 {n : Int} (h0 : 0 ≤ n) (h2 : n < 2) {k : Nat} (hk : 1 ≤ k) : n ^ k ≤ n := by
  obtain ⟨j, rfl⟩ : ∃ j, k = j + 1 := ⟨k - 1, by omega⟩
  have e : n = 0 ∨ n = 1 := by omega
  rcases e with rfl | rfl
  · rw [Int.pow_succ, Int.mul_zero]
    exact Int.le_refl _
  · rw [Int.one_pow]
    exact Int.le_refl _
/-- the scale between two pairs -/
def U (c4 c6 e4 e6 : Int) (u : Rat) : Prop := 0 < u ∧ u ^ 4 * (e4 : Rat) = (c4 : Rat) ∧ u ^ 6 * (e6 : Rat) = (c6 : Rat)
theorem cz {a : Int} : (a : Rat) = 0 ↔ a = 0 := by
  constructor
  · intro h
    exact_mod_cast h
  · rintro rfl
    rfl
theorem pp {u : Rat} (h : 0 < u) (k : Nat) : u ^ k ≠ 0 := fun e => by
  have h1 := Rat.pow_pos (n := k) h
  rw [e] at h1
  exact absurd h1 (by decide)
theorem U.z4 {c4 c6 e4 e6 : Int} {u : Rat} (h : U c4 c6 e4 e6 u) : c4 = 0 ↔ e4 = 0 := by
  obtain ⟨h0, h1, h2⟩ := h
  have := pp h0 4
  rw [← cz, ← cz (a := e4), ← h1]
  grind
theorem U.z6 {c4 c6 e4 e6 : Int} {u : Rat} (h : U c4 c6 e4 e6 u) : c6 = 0 ↔ e6 = 0 := by
  obtain ⟨h0, h1, h2⟩ := h
  have := pp h0 6
  rw [← cz, ← cz (a := e6), ← h2]
  grind
theorem U.uniq {c4 c6 e4 e6 : Int} {u v : Rat} (z : e4 ≠ 0 ∨ e6 ≠ 0) (h : U c4 c6 e4 e6 u) (k : U c4 c6 e4 e6 v) : u = v := by
  obtain ⟨h0, h1, h2⟩ := h
  obtain ⟨k0, k1, k2⟩ := k
  rcases z with z | z
  · have z' : (e4 : Rat) ≠ 0 := fun e => z (cz.mp e)
    exact qpow_inj (k := 4) (by decide) h0 k0 (by grind)
  · have z' : (e6 : Rat) ≠ 0 := fun e => z (cz.mp e)
    exact qpow_inj (k := 6) (by decide) h0 k0 (by grind)
theorem U.p4 {c4 c6 e4 e6 : Int} {u : Rat} (z : e4 ≠ 0) (h : U c4 c6 e4 e6 u) : u ^ 4 = Rat.divInt c4 e4 := by
  obtain ⟨h0, h1, h2⟩ := h
  have z' : (e4 : Rat) ≠ 0 := fun e => z (cz.mp e)
  rw [Rat.divInt_eq_div]
  grind
theorem U.p6 {c4 c6 e4 e6 : Int} {u : Rat} (z : e6 ≠ 0) (h : U c4 c6 e4 e6 u) : u ^ 6 = Rat.divInt c6 e6 := by
  obtain ⟨h0, h1, h2⟩ := h
  have z' : (e6 : Rat) ≠ 0 := fun e => z (cz.mp e)
  rw [Rat.divInt_eq_div]
  grind
theorem U.p2 {c4 c6 e4 e6 : Int} {u : Rat} (z4 : c4 ≠ 0) (z6 : e6 ≠ 0) (h : U c4 c6 e4 e6 u) : u ^ 2 = Rat.divInt (c6 * e4) (e6 * c4) := by
  obtain ⟨h0, h1, h2⟩ := h
  have z6' : (e6 : Rat) ≠ 0 := fun e => z6 (cz.mp e)
  have z4' : (c4 : Rat) ≠ 0 := fun e => z4 (cz.mp e)
  have := pp h0 4
  rw [Rat.divInt_eq_div, Rat.intCast_mul, Rat.intCast_mul]
  have e : (c6 : Rat) * e4 = u ^ 2 * (e6 * c4) := by
    rw [← h1, ← h2]
    grind
  grind
theorem U.of4 {c4 e4 : Int} {u : Rat} (z : e4 ≠ 0) (h0 : 0 < u) (h : u ^ 4 = Rat.divInt c4 e4) : U c4 0 e4 0 u := by
  have z' : (e4 : Rat) ≠ 0 := fun e => z (cz.mp e)
  rw [Rat.divInt_eq_div] at h
  refine ⟨h0, by grind, by grind⟩
theorem U.of6 {c6 e6 : Int} {u : Rat} (z : e6 ≠ 0) (h0 : 0 < u) (h : u ^ 6 = Rat.divInt c6 e6) : U 0 c6 0 e6 u := by
  have z' : (e6 : Rat) ≠ 0 := fun e => z (cz.mp e)
  rw [Rat.divInt_eq_div] at h
  refine ⟨h0, by grind, by grind⟩
theorem U.of2 {c4 c6 e4 e6 : Int} {u : Rat} (z4 : c4 ≠ 0) (y4 : e4 ≠ 0) (z6 : e6 ≠ 0) (h0 : 0 < u) (h : u ^ 2 = Rat.divInt (c6 * e4) (e6 * c4)) : U c4 c6 e4 e6 u ↔ (u.num * u.num) * (u.num * u.num) * e4 = (u.den * u.den) * (u.den * u.den) * c4 := by
  have z6' : (e6 : Rat) ≠ 0 := fun e => z6 (cz.mp e)
  have z4' : (c4 : Rat) ≠ 0 := fun e => z4 (cz.mp e)
  have y4' : (e4 : Rat) ≠ 0 := fun e => y4 (cz.mp e)
  have hd := denR u
  have hu := as_div u
  rw [Rat.divInt_eq_div, Rat.intCast_mul, Rat.intCast_mul] at h
  have k : u ^ 4 * (e4 : Rat) = c4 ↔ (u.num * u.num) * (u.num * u.num) * e4 = ((u.den : Int) * u.den) * (u.den * u.den) * c4 := by
    rw [← Rat.intCast_inj]
    simp only [Rat.intCast_mul]
    constructor
    · intro e
      grind
    · intro e
      grind
  constructor
  · rintro ⟨_, h1, _⟩
    exact k.mp h1
  · intro e
    have h1 := k.mpr e
    refine ⟨h0, h1, ?_⟩
    have h3 : u ^ 6 = u ^ 4 * u ^ 2 := by grind
    have h5 : (e6 : Rat) * c4 ≠ 0 := fun e => by
      rcases Rat.mul_eq_zero.mp e with e | e
      · exact z6' e
      · exact z4' e
    have h6 : u ^ 2 * ((e6 : Rat) * c4) = c6 * e4 := by
      rw [h]
      grind
    have h7 : u ^ 6 * e6 * c4 = c6 * c4 := by
      rw [h3]
      have : u ^ 4 * u ^ 2 * e6 * c4 = u ^ 4 * (u ^ 2 * (e6 * c4)) := by grind
      rw [this, h6, ← h1]
      grind
    grind
theorem div_ne {n d : Int} (h : n ≠ 0) (k : d ≠ 0) : Rat.divInt n d ≠ 0 := fun e => by
  have hn : (n : Rat) ≠ 0 := fun e => h (cz.mp e)
  have hd : (d : Rat) ≠ 0 := fun e => k (cz.mp e)
  rw [Rat.divInt_eq_div] at e
  grind
theorem qpos {u : Rat} (h : 0 < u) (k : Nat) : 0 < u ^ k := Rat.pow_pos h
theorem U.pos6 {c4 c6 e4 e6 : Int} {u : Rat} (z : e6 ≠ 0) (h : U c4 c6 e4 e6 u) : 0 < (Rat.divInt c6 e6).num := by
  rw [← U.p6 z h]
  exact num_pos (qpos h.1 6)
theorem U.pos4 {c4 c6 e4 e6 : Int} {u : Rat} (z : e4 ≠ 0) (h : U c4 c6 e4 e6 u) : 0 < c4 * e4 := by
  have h1 : 0 < (Rat.divInt c4 e4).num := by
    rw [← U.p4 z h]
    exact num_pos (qpos h.1 4)
  rw [Rat.num_divInt] at h1
  have h2 : 0 < e4.sign * c4 := by
    have hg : (0 : Int) < ((Int.gcd e4 c4 : Nat) : Int) := by
      have := Int.gcd_pos_of_ne_zero_left c4 z
      omega
    have h3 := (Int.le_ediv_iff_mul_le (a := 1) (b := e4.sign * c4) hg).mp (by omega)
    omega
  rcases Int.lt_trichotomy e4 0 with y | y | y
  · rw [Int.sign_eq_neg_one_of_neg y] at h2
    exact Int.mul_pos_of_neg_of_neg (by omega) y
  · exact absurd y z
  · rw [Int.sign_eq_one_of_pos y] at h2
    exact Int.mul_pos (by omega) y
theorem U.sq4 {c4 c6 e4 e6 : Int} {u r : Rat} (z : e4 ≠ 0) (h : U c4 c6 e4 e6 u) (r0 : 0 < r) (re : r ^ 2 = Rat.divInt c4 e4) : u ^ 2 = r := by
  refine qpow_inj (k := 2) (by decide) (qpos h.1 2) r0 ?_
  rw [re, ← U.p4 z h]
  grind
theorem U.sq4' {c4 c6 e4 e6 : Int} {u : Rat} (z : e4 ≠ 0) (h : U c4 c6 e4 e6 u) : (u ^ 2) ^ 2 = Rat.divInt c4 e4 := by
  rw [← U.p4 z h]
  grind
theorem U.cb6 {c4 c6 e4 e6 : Int} {u r : Rat} (z : e6 ≠ 0) (h : U c4 c6 e4 e6 u) (r0 : 0 < r) (re : r ^ 3 = Rat.divInt c6 e6) : u ^ 2 = r := by
  refine qpow_inj (k := 3) (by decide) (qpos h.1 2) r0 ?_
  rw [re, ← U.p6 z h]
  grind
theorem U.cb6' {c4 c6 e4 e6 : Int} {u : Rat} (z : e6 ≠ 0) (h : U c4 c6 e4 e6 u) : (u ^ 2) ^ 3 = Rat.divInt c6 e6 := by
  rw [← U.p6 z h]
  grind
theorem U.iff {c4 c6 e4 e6 : Int} {u : Rat} (h : 0 < u) : U c4 c6 e4 e6 u ↔ (e6 : Rat) * u ^ 6 = (c6 : Rat) ∧ (e4 : Rat) * u ^ 4 = (c4 : Rat) := by
  unfold U
  constructor
  · rintro ⟨_, h1, h2⟩
    exact ⟨by grind, by grind⟩
  · rintro ⟨h1, h2⟩
    exact ⟨h, by grind, by grind⟩
end QM
set_option Elab.async false
set_option linter.all false
set_option maxRecDepth 100000
namespace L2
open PySem PySem.Spec PyProof.Rows
section
variable {X : Cx}
def rIsqrt : List V → Hp → VK → Prop := fun vs H Q => ∃ a : Int, vs = [.int a] ∧ 0 ≤ a ∧ a.natAbs < 2 ^ 4000 ∧ Q (.int ((Float64.isqrt a.toNat : Nat) : Int)) H
theorem isq_int1 {i : Int} {us : List Value} (r : Vals [V.int i] us) : ∃ t, us = [Value.int i t] := by
  obtain ⟨t, u, h⟩ := Vals.int2 (i := i) (j := i) (us := us ++ us) (by
    cases r with
    | cons a b => cases b; exact .cons a (.cons a .nil))
  match us, h with
  | [_], h => exact ⟨t, by simp at h; rw [h.1]⟩
  | [], h => simp at h
  | _ :: _ :: _, h => simp at h
theorem cr_isqrt : CallR X (.builtin "math.isqrt") rIsqrt := by
  intro pins s σ H vs us Q I r h
  obtain ⟨a, rfl, h0, h1, q⟩ := h
  obtain ⟨t, rfl⟩ := isq_int1 r
  have hl : a.toNat.log2 ≤ 3999 := PySem.W.mg_log (k := 3999) (by rw [show a.toNat = a.natAbs by omega]; exact h1)
  exact call_function_meets PySem.W.MGF.kind_isqrt PySem.W.MGF.plain_isqrt PySem.W.MGF.entry_isqrt (PySem.W.MGF.args_isqrt _) (PySem.W.mg_run_isqrt a t (by omega) (by omega) (by omega)).meets ⟨.int _, H, I.tok _, ⟨_, rfl⟩, q⟩
end
end L2
namespace QM
/-- the whole root of a number -/
theorem isqrt_is {n : Int} (h : 0 ≤ n) : ((PySem.Float64.isqrt n.toNat : Nat) : Int) * ((PySem.Float64.isqrt n.toNat : Nat) : Int) ≤ n ∧ ∀ s : Int, 0 ≤ s → s * s ≤ n → s ≤ ((PySem.Float64.isqrt n.toNat : Nat) : Int) := by
  obtain ⟨a, b⟩ := PySem.Float64.isqrt_spec n.toNat
  generalize PySem.Float64.isqrt n.toNat = q at a b
  have e : ((n.toNat : Nat) : Int) = n := Int.toNat_of_nonneg h
  have a' : (q : Int) * q ≤ n := by rw [← e]; exact_mod_cast a
  have b' : n < ((q : Int) + 1) * (q + 1) := by rw [← e]; exact_mod_cast b
  refine ⟨a', fun s hs h1 => ?_⟩
  rcases (show (q : Int) < s ∨ s ≤ q by omega) with z | z
  · exfalso
    have := Int.mul_le_mul (show (q : Int) + 1 ≤ s by omega) (show (q : Int) + 1 ≤ s by omega) (by omega) hs
    omega
  · exact z
end QM
/-! Reckoning modulo n, inverses by Euclid's divisions: plain mathematics. -/
set_option linter.all false
namespace K45M
/-- one modulo n -/
def Mo (n a b : Int) : Prop := a % n = b % n
section
variable {n a b c d : Int}
theorem Mo.rfl' : Mo n a a := rfl
theorem Mo.of_eq (h : a = b) : Mo n a b := by rw [h]; exact Mo.rfl'
theorem Mo.symm (h : Mo n a b) : Mo n b a := Eq.symm h
theorem Mo.trans (h : Mo n a b) (k : Mo n b c) : Mo n a c := Eq.trans h k
theorem Mo.add (h : Mo n a b) (k : Mo n c d) : Mo n (a + c) (b + d) := by
  unfold Mo at *
  rw [Int.add_emod, h, k, ← Int.add_emod]
theorem Mo.sub (h : Mo n a b) (k : Mo n c d) : Mo n (a - c) (b - d) := by
  unfold Mo at *
  rw [Int.sub_emod, h, k, ← Int.sub_emod]
theorem Mo.mul (h : Mo n a b) (k : Mo n c d) : Mo n (a * c) (b * d) := by
  unfold Mo at *
  rw [Int.mul_emod, h, k, ← Int.mul_emod]
theorem Mo.neg (h : Mo n a b) : Mo n (-a) (-b) := by
  have := (Mo.rfl' (n := n) (a := 0)).sub h
  rw [Int.zero_sub, Int.zero_sub] at this
  exact this
theorem Mo.mod : Mo n (a % n) a := Int.emod_emod_of_dvd a (Int.dvd_refl n)
theorem Mo.iff_dvd : Mo n a b ↔ n ∣ a - b := by
  unfold Mo
  exact Int.emod_eq_emod_iff_emod_sub_eq_zero.trans (Int.dvd_iff_emod_eq_zero).symm
theorem Mo.zero : Mo n a 0 ↔ n ∣ a := by
  rw [Mo.iff_dvd, Int.sub_zero]
/-- a digit -/
def Dg (n a : Int) : Prop := 0 ≤ a ∧ a < n
theorem Dg.eq (ha : Dg n a) (hb : Dg n b) (h : Mo n a b) : a = b := by
  unfold Mo at h
  rwa [Int.emod_eq_of_lt ha.1 ha.2, Int.emod_eq_of_lt hb.1 hb.2] at h
theorem Dg.mod (hn : 0 < n) : Dg n (a % n) := ⟨Int.emod_nonneg _ (by omega), Int.emod_lt_of_pos _ hn⟩
/-- z has an inverse -/
def Un (n z : Int) : Prop := ∃ t, Mo n (z * t) 1
theorem Un.mul {y z : Int} (hy : Un n y) (hz : Un n z) : Un n (y * z) := by
  obtain ⟨s, hs⟩ := hy
  obtain ⟨t, ht⟩ := hz
  refine ⟨s * t, ?_⟩
  have := hs.mul ht
  rw [Int.mul_one] at this
  exact (Mo.of_eq (by ac_rfl)).trans this
theorem Un.one : Un n 1 := ⟨1, Mo.rfl'⟩
theorem Un.congr {y z : Int} (h : Mo n y z) (hy : Un n y) : Un n z := by
  obtain ⟨s, hs⟩ := hy
  exact ⟨s, (h.symm.mul Mo.rfl').trans hs⟩
theorem Un.of_mul {y z : Int} (h : Un n (y * z)) : Un n y ∧ Un n z := by
  obtain ⟨s, hs⟩ := h
  exact ⟨⟨z * s, (Mo.of_eq (by ac_rfl)).trans hs⟩, ⟨y * s, (Mo.of_eq (by ac_rfl)).trans hs⟩⟩
theorem Un.cancel {z : Int} (hz : Un n z) (h : Mo n (a * z) (b * z)) : Mo n a b := by
  obtain ⟨t, ht⟩ := hz
  have h1 := h.mul (Mo.rfl' (a := t))
  have e : ∀ x : Int, Mo n (x * z * t) x := fun x => by
    have := (Mo.rfl' (a := x)).mul ht
    rw [Int.mul_one, ← Int.mul_assoc] at this
    exact this
  exact (e a).symm.trans (h1.trans (e b))
/-- Bezout -/
theorem bez : ∀ (m k : Nat), ∃ x y : Int, (m : Int) * x + (k : Int) * y = ((Nat.gcd m k : Nat) : Int) := by
  intro m
  induction m using Nat.strongRecOn with
  | ind m ih =>
    intro k
    rcases Nat.eq_zero_or_pos m with h | h
    · subst h
      exact ⟨0, 1, by simp⟩
    · obtain ⟨x, y, e⟩ := ih (k % m) (Nat.mod_lt _ h) m
      rw [Nat.gcd_rec m k]
      refine ⟨y - (k / m : Nat) * x, x, ?_⟩
      rw [← e]
      have : (k : Int) = (m : Int) * ((k / m : Nat) : Int) + ((k % m : Nat) : Int) := by exact_mod_cast (Nat.div_add_mod k m).symm
      generalize ((k / m : Nat) : Int) = q at *
      generalize ((k % m : Nat) : Int) = r at *
      rw [this]
      grind
theorem un_iff (hn : 0 < n) {z : Int} : Un n z ↔ Int.gcd z n = 1 := by
  constructor
  · rintro ⟨t, ht⟩
    have h := Mo.iff_dvd.mp ht
    have g1 : (Int.gcd z n : Int) ∣ z := Int.gcd_dvd_left ..
    have g2 : (Int.gcd z n : Int) ∣ n := Int.gcd_dvd_right ..
    have g3 : (Int.gcd z n : Int) ∣ z * t - 1 := Int.dvd_trans g2 h
    have g4 : (Int.gcd z n : Int) ∣ 1 := by
      have := Int.dvd_sub (Int.dvd_mul_of_dvd_left (b := z) (c := t) g1) g3
      rw [show z * t - (z * t - 1) = 1 by omega] at this
      exact this
    exact Nat.dvd_one.mp (Int.natCast_dvd_natCast.mp g4)
  · intro h
    obtain ⟨x, y, e⟩ := bez z.natAbs n.natAbs
    have h' : Nat.gcd z.natAbs n.natAbs = 1 := h
    rw [h'] at e
    have en : (n.natAbs : Int) = n := by omega
    rw [en] at e
    rcases Int.natAbs_eq z with q | q
    · refine ⟨x, Mo.iff_dvd.mpr ⟨-y, ?_⟩⟩
      rw [q]
      have : n * -y = -(n * y) := Int.mul_neg ..
      omega
    · refine ⟨-x, Mo.iff_dvd.mpr ⟨-y, ?_⟩⟩
      rw [q]
      have : n * -y = -(n * y) := Int.mul_neg ..
      have : -(z.natAbs : Int) * -x = (z.natAbs : Int) * x := Int.neg_mul_neg ..
      omega
theorem gcd_congr (h : Mo n a b) : Int.gcd a n = Int.gcd b n := by
  obtain ⟨q, hq⟩ := Mo.iff_dvd.mp h
  have : a = b + n * q := by omega
  rw [this, Int.gcd_add_mul_left_left]
theorem gcd_unit (hn : 0 < n) {z : Int} (hz : Un n z) (a : Int) : Int.gcd (a * z) n = Int.gcd a n := by
  have := (un_iff hn).mp hz
  show Nat.gcd (a * z).natAbs n.natAbs = Nat.gcd a.natAbs n.natAbs
  rw [Int.natAbs_mul]
  exact Nat.Coprime.gcd_mul_right_cancel _ this
theorem zero_unit {z : Int} (hz : Un n z) : Mo n (a * z) 0 ↔ Mo n a 0 := by
  constructor
  · intro h
    exact hz.cancel (h.trans (Mo.of_eq (Int.zero_mul z).symm))
  · intro h
    exact (h.mul Mo.rfl').trans (Mo.of_eq (Int.zero_mul z))
end
/-! ### Euclid's divisions with one row of factors -/
/-- above * a is high modulo n, below * a is low; the factors stay small -/
structure Eu (n a : Int) (high low above below : Int) : Prop where
  h0 : 0 < high
  l0 : 0 ≤ low
  ha : Mo n (above * a) high
  la : Mo n (below * a) low
  g : Nat.gcd high.natAbs low.natAbs = Nat.gcd a.natAbs n.natAbs
  sz : high * (below.natAbs : Int) + low * (above.natAbs : Int) = n
  sg : above * below ≤ 0
  lt : low < high
  hn : high ≤ n
theorem Eu.start {n a : Int} (hn : 0 < n) : Eu n a n (a % n) 0 1 := by
  refine ⟨hn, Int.emod_nonneg _ (by omega), ?_, ?_, ?_, by simp, by decide, Int.emod_lt_of_pos _ hn, Int.le_refl _⟩
  · rw [Int.zero_mul]
    exact (Mo.zero.mpr (Int.dvd_refl n)).symm
  · rw [Int.one_mul]
    exact Mo.mod.symm
  · have := gcd_congr (n := n) (a := a % n) (b := a) Mo.mod
    rw [Nat.gcd_comm]
    exact this
theorem natAbs_step {u v q : Int} (h : u * v ≤ 0) (hq : 0 ≤ q) : ((u - q * v).natAbs : Int) = (u.natAbs : Int) + q * (v.natAbs : Int) := by
  have hqv : q * (v.natAbs : Int) = ((q * v).natAbs : Int) := by
    rw [Int.natAbs_mul, Int.natCast_mul]
    congr 1
    omega
  rw [hqv]
  rcases Int.lt_trichotomy v 0 with hv | hv | hv
  · have u0 : 0 ≤ u := Int.not_lt.mp fun z => by
      have := Int.mul_pos_of_neg_of_neg z hv
      omega
    have : q * v ≤ 0 := Int.mul_nonpos_of_nonneg_of_nonpos hq (by omega)
    omega
  · subst hv
    rw [Int.mul_zero]
    omega
  · have u0 : u ≤ 0 := Int.not_lt.mp fun z => by
      have := Int.mul_pos z hv
      omega
    have : 0 ≤ q * v := Int.mul_nonneg hq (by omega)
    omega
theorem Eu.step {n a high low above below : Int} (h : Eu n a high low above below) (hl : low ≠ 0) : Eu n a low (high % low) below (above - high / low * below) ∧ high % low < low := by
  obtain ⟨h0, l0, ha, la, g, sz, sg, lt, hn⟩ := h
  have lp : 0 < low := by omega
  have q0 : 0 ≤ high / low := Int.ediv_nonneg (by omega) l0
  have em : high % low = high - high / low * low := by
    have := Int.emod_def high low
    rw [this, Int.mul_comm]
  refine ⟨⟨lp, Int.emod_nonneg _ hl, la, ?_, ?_, ?_, ?_, Int.emod_lt_of_pos _ lp, by omega⟩, Int.emod_lt_of_pos _ lp⟩
  · rw [em]
    have e : (above - high / low * below) * a = above * a - high / low * (below * a) := by grind
    rw [e]
    exact ha.sub (Mo.rfl'.mul la)
  · rw [← g]
    have : (high % low).natAbs = high.natAbs % low.natAbs := by
      obtain ⟨x, rfl⟩ : ∃ x : Nat, high = x := ⟨high.toNat, by omega⟩
      obtain ⟨y, rfl⟩ : ∃ y : Nat, low = y := ⟨low.toNat, by omega⟩
      rw [← Int.natCast_emod]
      rfl
    rw [this, Nat.gcd_comm low.natAbs, ← Nat.gcd_rec, Nat.gcd_comm]
  · rw [natAbs_step sg q0, em, ← sz]
    generalize (below.natAbs : Int) = u
    generalize (above.natAbs : Int) = v
    grind
  · have e : below * (above - high / low * below) = above * below - high / low * (below * below) := by grind
    rw [e]
    have b2 : 0 ≤ below * below := by
      rcases Int.le_total 0 below with q | q
      · exact Int.mul_nonneg q q
      · exact Int.mul_nonneg_of_nonpos_of_nonpos q q
    have := Int.mul_nonneg q0 b2
    omega
theorem Eu.small {n a high low above below : Int} (h : Eu n a high low above below) (hl : low ≠ 0) : (above.natAbs : Int) ≤ n ∧ (below.natAbs : Int) ≤ n := by
  obtain ⟨h0, l0, ha, la, g, sz, sg, lt, hn⟩ := h
  have h1 : 1 * (below.natAbs : Int) ≤ high * (below.natAbs : Int) := Int.mul_le_mul_of_nonneg_right (by omega) (by omega)
  have h2 : 1 * (above.natAbs : Int) ≤ low * (above.natAbs : Int) := Int.mul_le_mul_of_nonneg_right (by omega) (by omega)
  omega
/-- r is the inverse of a modulo n -/
def Inv (n a r : Int) : Prop := Dg n r ∧ Mo n (a * r) 1
theorem Inv.uniq {n a r s : Int} (h : Inv n a r) (k : Inv n a s) : r = s := by
  refine h.1.eq k.1 ?_
  have hu : Un n a := ⟨r, h.2⟩
  refine hu.cancel ?_
  rw [Int.mul_comm r, Int.mul_comm s]
  exact h.2.trans k.2.symm
theorem Inv.un {n a r : Int} (h : Inv n a r) : Un n r := ⟨a, by rw [Int.mul_comm]; exact h.2⟩
theorem Eu.inv {n a high above below : Int} (h : Eu n a high 0 above below) (hn : 0 < n) (hg : Nat.gcd a.natAbs n.natAbs = 1) : Inv n a (above % n) := by
  have g := h.g
  have h0 := h.h0
  rw [hg] at g
  have h1 : high = 1 := by
    simp at g
    omega
  refine ⟨Dg.mod hn, ?_⟩
  have := h.ha
  rw [h1, Int.mul_comm] at this
  exact (Mo.rfl'.mul Mo.mod).trans this
theorem Eu.inv1 {n a high above below : Int} (h : Eu n a high 1 above below) (hn : 0 < n) : Inv n a (below % n) := by
  refine ⟨Dg.mod hn, ?_⟩
  have := h.la
  rw [Int.mul_comm] at this
  exact (Mo.rfl'.mul Mo.mod).trans this
theorem Eu.rest {n a high low above below : Int} (h : Eu n a high low above below) (hg : Nat.gcd a.natAbs n.natAbs = 1) (hl : 1 < low) : high % low ≠ 0 := by
  intro z
  have g := h.g
  rw [hg] at g
  have : low.natAbs ∣ high.natAbs := Int.natAbs_dvd_natAbs.mpr (Int.dvd_of_emod_eq_zero z)
  rw [Nat.gcd_eq_right this] at g
  omega
/-! ### points modulo n -/
abbrev Pt := Option (Int × Int)
inductive R
  | ok (P : Pt)
  | br (d : Option Int)
open Classical in
noncomputable def iv (n z : Int) : Int := if h : ∃ r, Inv n z r then h.choose else 0
theorem iv_eq {n z r : Int} (h : Inv n z r) : iv n z = r := by
  have e : ∃ r, Inv n z r := ⟨r, h⟩
  unfold iv
  rw [dif_pos e]
  exact e.choose_spec.uniq h
noncomputable def dv (n x y z upper lower : Int) : R :=
  if Int.gcd lower n = 1 then
    .ok (some ((upper * iv n lower * (upper * iv n lower) - x - z) % n, (upper * iv n lower * (x - (upper * iv n lower * (upper * iv n lower) - x - z) % n) - y) % n))
  else .br (some (Int.gcd lower n))
/-- the sum of two points, as the law reckons -/
noncomputable def sumR (n a : Int) : Pt → Pt → R
  | none, Q => .ok Q
  | some P, none => .ok (some P)
  | some (x, y), some (z, w) => if x = z then (if (y + w) % n = 0 then .ok none else if y ≠ w then .br none else dv n x y z (3 * x * x + a) (2 * y)) else dv n x y z (w - y) (z - x)
/-- three letters for a point -/
structure Rep (n X Y x y z : Int) : Prop where
  dX : Dg n X
  dY : Dg n Y
  dx : Dg n x
  dy : Dg n y
  dz : Dg n z
  u : Un n z
  ex : Mo n x (X * (z * z))
  ey : Mo n y (Y * (z * z * z))
section
variable {n a X Y x y z : Int}
theorem dv_k {x y z upper lower k : Int} (hn : 0 < n) (hu : Un n lower) (hk : Mo n (k * lower) upper) : dv n x y z upper lower = .ok (some ((k * k - x - z) % n, (k * (x - (k * k - x - z) % n) - y) % n)) := by
  have hg : Int.gcd lower n = 1 := (un_iff hn).mp hu
  obtain ⟨t, ht⟩ := hu
  have hi : Inv n lower (t % n) := ⟨Dg.mod hn, (Mo.rfl'.mul Mo.mod).trans ht⟩
  have e : iv n lower = t % n := iv_eq hi
  unfold dv
  rw [if_pos hg, e]
  have hm : Mo n (upper * (t % n)) k := by
    refine (hk.symm.mul Mo.rfl').trans ?_
    have := (Mo.rfl' (n := n) (a := k)).mul hi.2
    rw [Int.mul_one, ← Int.mul_assoc] at this
    exact this
  have e1 : (upper * (t % n) * (upper * (t % n)) - x - z) % n = (k * k - x - z) % n := ((hm.mul hm).sub Mo.rfl').sub Mo.rfl'
  rw [e1]
  have e2 : (upper * (t % n) * (x - (k * k - x - z) % n) - y) % n = (k * (x - (k * k - x - z) % n) - y) % n := (hm.mul Mo.rfl').sub Mo.rfl'
  rw [e2]
theorem two_zero (h2 : Un n 2) {y : Int} : (y + y) % n = 0 ↔ Mo n y 0 := by
  have e : y + y = y * 2 := by omega
  rw [e]
  have := zero_unit (a := y) h2
  unfold Mo at this ⊢
  rw [Int.zero_emod] at this ⊢
  exact this
theorem Rep.y0 (h : Rep n X Y x y z) : y = 0 ↔ Mo n Y 0 := by
  have uz := (h.u.mul h.u).mul h.u
  constructor
  · intro e
    have := h.ey
    rw [e] at this
    exact (zero_unit uz).mp this.symm
  · intro e
    have := h.ey.trans ((zero_unit uz).mpr e)
    exact h.dy.eq ⟨Int.le_refl 0, by have := h.dy; unfold Dg at this; omega⟩ this
theorem sumR_ss (n a x y z w : Int) : sumR n a (some (x, y)) (some (z, w)) = if x = z then (if (y + w) % n = 0 then .ok none else if y ≠ w then .br none else dv n x y z (3 * x * x + a) (2 * y)) else dv n x y z (w - y) (z - x) := rfl
theorem dbl_zero (h : Rep n X Y x y z) (h2 : Un n 2) (hy : y = 0) : sumR n a (some (X, Y)) (some (X, Y)) = .ok none := by
  rw [sumR_ss, if_pos rfl, if_pos ((two_zero h2).mpr (h.y0.mp hy))]
theorem gcd_2Y (h : Rep n X Y x y z) (hn : 0 < n) (h2 : Un n 2) : Int.gcd (2 * Y) n = Int.gcd y n := by
  rw [Int.mul_comm, gcd_unit hn h2, gcd_congr h.ey, gcd_unit hn ((h.u.mul h.u).mul h.u)]
theorem dbl_br (h : Rep n X Y x y z) (hn : 0 < n) (h2 : Un n 2) (hy : y ≠ 0) (hg : Int.gcd y n ≠ 1) : sumR n a (some (X, Y)) (some (X, Y)) = .br (some (Int.gcd y n)) := by
  rw [sumR_ss, if_pos rfl, if_neg (fun e => hy (h.y0.mpr ((two_zero h2).mp e))), if_neg (by simp)]
  unfold dv
  rw [gcd_2Y h hn h2, if_neg hg]
theorem dbl_ok (h : Rep n X Y x y z) (hn : 0 < n) (h2 : Un n 2) (hy : y ≠ 0) (hg : Int.gcd y n = 1) {yy zz s m x3 y3 z3 : Int}
    (e1 : yy = y * y % n) (e2 : zz = z * z % n) (e3 : s = 4 * x * yy % n) (e4 : m = (3 * x * x + a * zz * zz) % n) (e5 : x3 = (m * m - 2 * s) % n) (e6 : y3 = (m * (s - x3) - 8 * yy * yy) % n) (e7 : z3 = 2 * y * z % n) :
    ∃ X3 Y3, sumR n a (some (X, Y)) (some (X, Y)) = .ok (some (X3, Y3)) ∧ Rep n X3 Y3 x3 y3 z3 := by
  have u2Y : Un n (2 * Y) := (un_iff hn).mpr ((gcd_2Y h hn h2).trans hg)
  have uY := (Un.of_mul u2Y).2
  obtain ⟨t, ht⟩ := u2Y
  obtain ⟨k, hk⟩ : ∃ k, k = (3 * X * X + a) * t := ⟨_, rfl⟩
  have hkm : Mo n (k * (2 * Y)) (3 * X * X + a) := by
    rw [hk]
    have := (Mo.rfl' (n := n) (a := 3 * X * X + a)).mul ht
    rw [Int.mul_one] at this
    exact (Mo.of_eq (by ac_rfl)).trans this
  have hs : sumR n a (some (X, Y)) (some (X, Y)) = .ok (some ((k * k - X - X) % n, (k * (X - (k * k - X - X) % n) - Y) % n)) := by
    rw [sumR_ss, if_pos rfl, if_neg (fun e => hy (h.y0.mpr ((two_zero h2).mp e))), if_neg (by simp), dv_k hn ⟨t, ht⟩ hkm]
  refine ⟨_, _, hs, ?_⟩
  have hx := h.ex
  have hyy := h.ey
  have m1 : Mo n yy (Y * (z * z * z) * (Y * (z * z * z))) := by
    rw [e1]
    exact Mo.mod.trans (hyy.mul hyy)
  have m2 : Mo n zz (z * z) := by
    rw [e2]
    exact Mo.mod
  have m3 : Mo n s (4 * (X * (z * z)) * (Y * (z * z * z) * (Y * (z * z * z)))) := by
    rw [e3]
    exact Mo.mod.trans (((Mo.rfl').mul hx).mul m1)
  have m4 : Mo n m (k * (2 * Y) * (z * z * (z * z))) := by
    rw [e4]
    refine Mo.mod.trans ?_
    refine (((Mo.rfl'.mul hx).mul hx).add ((Mo.rfl'.mul m2).mul m2)).trans ?_
    refine Mo.trans (Mo.of_eq ?_) (hkm.symm.mul Mo.rfl')
    grind
  have m7 : Mo n z3 (2 * (Y * (z * z * z)) * z) := by
    rw [e7]
    exact Mo.mod.trans ((Mo.rfl'.mul hyy).mul Mo.rfl')
  have m5 : Mo n x3 ((k * k - X - X) * (2 * (Y * (z * z * z)) * z * (2 * (Y * (z * z * z)) * z))) := by
    rw [e5]
    refine Mo.mod.trans (((m4.mul m4).sub (Mo.rfl'.mul m3)).trans (Mo.of_eq ?_))
    grind
  have m6 : Mo n y3 ((k * (X - (k * k - X - X)) - Y) * (2 * (Y * (z * z * z)) * z * (2 * (Y * (z * z * z)) * z) * (2 * (Y * (z * z * z)) * z))) := by
    rw [e6]
    refine Mo.mod.trans (((m4.mul (m3.sub m5)).sub ((Mo.rfl'.mul m1).mul m1)).trans (Mo.of_eq ?_))
    grind
  have uz3 : Un n (2 * (Y * (z * z * z)) * z) := (h2.mul (uY.mul ((h.u.mul h.u).mul h.u))).mul h.u
  refine ⟨Dg.mod hn, Dg.mod hn, by rw [e5]; exact Dg.mod hn, by rw [e6]; exact Dg.mod hn, by rw [e7]; exact Dg.mod hn, uz3.congr m7.symm, ?_, ?_⟩
  · exact m5.trans (Mo.mod.symm.mul (m7.symm.mul m7.symm))
  · refine m6.trans (Mo.mul ?_ ((m7.symm.mul m7.symm).mul m7.symm))
    exact (Mo.sub (Mo.rfl'.mul (Mo.rfl'.sub Mo.mod.symm)) Mo.rfl').trans Mo.mod.symm
/-- what is reckoned of a point and a further one -/
structure Jn (n X Y x y z p q zz lifted across up : Int) : Prop where
  ezz : zz = z * z % n
  el : lifted = q * zz * z
  ea : across = (p * zz - x) % n
  eu : up = (lifted - y) % n
section
variable {p q zz lifted across up : Int}
theorem Jn.acr (j : Jn n X Y x y z p q zz lifted across up) (h : Rep n X Y x y z) : Mo n across ((p - X) * (z * z)) := by
  rw [j.ea, j.ezz]
  exact Mo.mod.trans (((Mo.rfl'.mul Mo.mod).sub h.ex).trans (Mo.of_eq (by grind)))
theorem Jn.lif (j : Jn n X Y x y z p q zz lifted across up) : Mo n lifted (q * (z * z * z)) := by
  rw [j.el, j.ezz]
  exact ((Mo.rfl'.mul Mo.mod).mul Mo.rfl').trans (Mo.of_eq (by grind))
theorem Jn.upp (j : Jn n X Y x y z p q zz lifted across up) (h : Rep n X Y x y z) : Mo n up ((q - Y) * (z * z * z)) := by
  rw [j.eu]
  exact Mo.mod.trans ((j.lif.sub h.ey).trans (Mo.of_eq (by grind)))
theorem dg0 (hn : 0 < n) : Dg n 0 := ⟨Int.le_refl _, hn⟩
theorem sub_zero_iff {a b : Int} (ha : Dg n a) (hb : Dg n b) : Mo n (a - b) 0 ↔ a = b := by
  constructor
  · intro h
    refine ha.eq hb ?_
    have := h.add (Mo.rfl' (a := b))
    rw [Int.sub_add_cancel, Int.zero_add] at this
    exact this
  · rintro rfl
    exact Mo.of_eq (Int.sub_self _)
theorem Jn.across0 (j : Jn n X Y x y z p q zz lifted across up) (h : Rep n X Y x y z) (hn : 0 < n) (hp : Dg n p) : across = 0 ↔ X = p := by
  have uz := h.u.mul h.u
  have da : Dg n across := by rw [j.ea]; exact Dg.mod hn
  constructor
  · intro e
    have := j.acr h
    rw [e] at this
    exact ((sub_zero_iff hp h.dX).mp ((zero_unit uz).mp this.symm)).symm
  · intro e
    exact da.eq (dg0 hn) ((j.acr h).trans ((zero_unit uz).mpr ((sub_zero_iff hp h.dX).mpr e.symm)))
theorem Jn.up0 (j : Jn n X Y x y z p q zz lifted across up) (h : Rep n X Y x y z) (hn : 0 < n) (hq : Dg n q) : up = 0 ↔ Y = q := by
  have uz := (h.u.mul h.u).mul h.u
  have da : Dg n up := by rw [j.eu]; exact Dg.mod hn
  constructor
  · intro e
    have := j.upp h
    rw [e] at this
    exact ((sub_zero_iff hq h.dY).mp ((zero_unit uz).mp this.symm)).symm
  · intro e
    exact da.eq (dg0 hn) ((j.upp h).trans ((zero_unit uz).mpr ((sub_zero_iff hq h.dY).mpr e.symm)))
theorem mod0 {a : Int} : a % n = 0 ↔ Mo n a 0 := by
  unfold Mo
  rw [Int.zero_emod]
theorem Jn.opp (j : Jn n X Y x y z p q zz lifted across up) (h : Rep n X Y x y z) : (lifted + y) % n = 0 ↔ (Y + q) % n = 0 := by
  have uz := (h.u.mul h.u).mul h.u
  rw [mod0, mod0, ← zero_unit (a := Y + q) uz]
  have e : Mo n (lifted + y) ((Y + q) * (z * z * z)) := (j.lif.add h.ey).trans (Mo.of_eq (by grind))
  exact ⟨fun w => e.symm.trans w, fun w => e.trans w⟩
theorem Jn.gcd (j : Jn n X Y x y z p q zz lifted across up) (h : Rep n X Y x y z) (hn : 0 < n) : Int.gcd (p - X) n = Int.gcd across n := by
  rw [gcd_congr (j.acr h), gcd_unit hn (h.u.mul h.u)]
theorem join_br (j : Jn n X Y x y z p q zz lifted across up) (h : Rep n X Y x y z) (hn : 0 < n) (hp : Dg n p) (h0 : across ≠ 0) (hg : Int.gcd across n ≠ 1) : sumR n a (some (X, Y)) (some (p, q)) = .br (some (Int.gcd across n)) := by
  rw [sumR_ss, if_neg (fun e => h0 ((j.across0 h hn hp).mpr e))]
  unfold dv
  rw [j.gcd h hn, if_neg hg]
theorem join_ok (j : Jn n X Y x y z p q zz lifted across up) (h : Rep n X Y x y z) (hn : 0 < n) (hp : Dg n p) (h0 : across ≠ 0) (hg : Int.gcd across n = 1) {square cube bs x3 y3 z3 : Int}
    (e1 : square = across * across % n) (e2 : cube = square * across % n) (e3 : bs = x * square % n) (e4 : x3 = (up * up - cube - 2 * bs) % n) (e5 : y3 = (up * (bs - x3) - y * cube) % n) (e6 : z3 = z * across % n) :
    ∃ X3 Y3, sumR n a (some (X, Y)) (some (p, q)) = .ok (some (X3, Y3)) ∧ Rep n X3 Y3 x3 y3 z3 := by
  have ud : Un n (p - X) := (un_iff hn).mpr ((j.gcd h hn).trans hg)
  have ud2 := ud
  obtain ⟨t, ht⟩ := ud
  obtain ⟨k, hk⟩ : ∃ k, k = (q - Y) * t := ⟨_, rfl⟩
  have hkm : Mo n (k * (p - X)) (q - Y) := by
    rw [hk]
    have := (Mo.rfl' (n := n) (a := q - Y)).mul ht
    rw [Int.mul_one] at this
    exact (Mo.of_eq (by ac_rfl)).trans this
  have hs : sumR n a (some (X, Y)) (some (p, q)) = .ok (some ((k * k - X - p) % n, (k * (X - (k * k - X - p) % n) - Y) % n)) := by
    rw [sumR_ss, if_neg (fun e => h0 ((j.across0 h hn hp).mpr e)), dv_k hn ⟨t, ht⟩ hkm]
  refine ⟨_, _, hs, ?_⟩
  have ma := j.acr h
  have mu : Mo n up (k * (p - X) * (z * z * z)) := (j.upp h).trans (hkm.symm.mul Mo.rfl')
  have m1 : Mo n square ((p - X) * (z * z) * ((p - X) * (z * z))) := by
    rw [e1]
    exact Mo.mod.trans (ma.mul ma)
  have m2 : Mo n cube ((p - X) * (z * z) * ((p - X) * (z * z)) * ((p - X) * (z * z))) := by
    rw [e2]
    exact Mo.mod.trans (m1.mul ma)
  have m3 : Mo n bs (X * (z * z) * ((p - X) * (z * z) * ((p - X) * (z * z)))) := by
    rw [e3]
    exact Mo.mod.trans (h.ex.mul m1)
  have m6 : Mo n z3 (z * ((p - X) * (z * z))) := by
    rw [e6]
    exact Mo.mod.trans (Mo.rfl'.mul ma)
  have m4 : Mo n x3 ((k * k - X - p) * (z * ((p - X) * (z * z)) * (z * ((p - X) * (z * z))))) := by
    rw [e4]
    refine Mo.mod.trans ((((mu.mul mu).sub m2).sub (Mo.rfl'.mul m3)).trans (Mo.of_eq ?_))
    grind
  have m5 : Mo n y3 ((k * (X - (k * k - X - p)) - Y) * (z * ((p - X) * (z * z)) * (z * ((p - X) * (z * z))) * (z * ((p - X) * (z * z))))) := by
    rw [e5]
    refine Mo.mod.trans (((mu.mul (m3.sub m4)).sub (h.ey.mul m2)).trans (Mo.of_eq ?_))
    grind
  have uz3 : Un n (z * ((p - X) * (z * z))) := h.u.mul (ud2.mul (h.u.mul h.u))
  refine ⟨Dg.mod hn, Dg.mod hn, by rw [e4]; exact Dg.mod hn, by rw [e5]; exact Dg.mod hn, by rw [e6]; exact Dg.mod hn, uz3.congr m6.symm, ?_, ?_⟩
  · exact m4.trans (Mo.mod.symm.mul (m6.symm.mul m6.symm))
  · refine m5.trans (Mo.mul ?_ ((m6.symm.mul m6.symm).mul m6.symm))
    exact (Mo.sub (Mo.rfl'.mul (Mo.rfl'.sub Mo.mod.symm)) Mo.rfl').trans Mo.mod.symm
end
/-- from three letters to two -/
theorem settle (h : Rep n X Y x y z) (hn : 0 < n) {t : Int} (ht : Inv n z t) : x * (t * t % n) % n = X ∧ y * (t * t % n) * t % n = Y := by
  have e1 : Mo n (z * t) 1 := ht.2
  constructor
  · refine (Dg.mod hn).eq h.dX (Mo.mod.trans ((h.ex.mul Mo.mod).trans ?_))
    have := (Mo.rfl' (a := X)).mul (e1.mul e1)
    rw [Int.mul_one, Int.mul_one] at this
    exact (Mo.of_eq (by grind)).trans this
  · refine (Dg.mod hn).eq h.dY (Mo.mod.trans (((h.ey.mul Mo.mod).mul Mo.rfl').trans ?_))
    have := (Mo.rfl' (a := Y)).mul ((e1.mul e1).mul e1)
    rw [Int.mul_one, Int.mul_one, Int.mul_one] at this
    exact (Mo.of_eq (by grind)).trans this
/-! ### walks -/
/-- one figure -/
noncomputable def st (n a : Int) (p : Int × Int) (b : Bool) (P : Pt) : R :=
  match sumR n a P P with
  | .br d => .br d
  | .ok P1 => if b = true then sumR n a P1 (some p) else .ok P1
noncomputable def wk (n a : Int) (p : Int × Int) (k : Nat) : Nat → Pt → R
  | 0, P => .ok P
  | j + 1, P => match st n a p (k / 2 ^ j % 2 == 1) P with
    | .br d => .br d
    | .ok P' => wk n a p k j P'
/-- sizes -/
def PtOk (n : Int) : Pt → Prop
  | none => True
  | some P => Dg n P.1 ∧ Dg n P.2
def ROk (n : Int) : R → Prop
  | .ok P => PtOk n P
  | .br none => True
  | .br (some d) => 0 ≤ d ∧ d ≤ n
theorem dv_ok (hn : 0 < n) {x y z u l : Int} : ROk n (dv n x y z u l) := by
  unfold dv
  split
  · exact ⟨Dg.mod hn, Dg.mod hn⟩
  · refine ⟨by omega, ?_⟩
    have := Int.gcd_le_right l hn
    exact this
theorem sum_ok (hn : 0 < n) {P S : Pt} (hP : PtOk n P) (hS : PtOk n S) : ROk n (sumR n a P S) := by
  match P, S, hP, hS with
  | none, Q, _, hS => exact hS
  | some P, none, hP, _ => exact hP
  | some (x, y), some (z, w), hP, hS =>
    rw [sumR_ss]
    split
    · split
      · trivial
      · split
        · trivial
        · exact dv_ok hn
    · exact dv_ok hn
end
end K45M
/-! Curves of five numbers over a ring without divisors of nought: chords and tangents by one slope, sums, the law of three. Plain mathematics. -/
set_option linter.all false
namespace EcF
open Lean.Grind
section
variable {R : Type} [CommRing R]
structure Cu (R : Type) where
  a1 : R
  a2 : R
  a3 : R
  a4 : R
  a6 : R
/-- no divisors of nought -/
def Nz (R : Type) [CommRing R] : Prop := ∀ a b : R, a * b = 0 → a = 0 ∨ b = 0
def On (c : Cu R) (x y : R) : Prop := y * y + c.a1 * x * y + c.a3 * y = x * x * x + c.a2 * x * x + c.a4 * x + c.a6
/-- k is the slope of the line through two points of the curve, or of the tangent -/
def Sl (c : Cu R) (k x y z w : R) : Prop := k * (z - x) = w - y ∧ k * (y + w + c.a1 * z + c.a3) = x * x + x * z + z * z + c.a2 * (x + z) + c.a4 - c.a1 * y
def tx (c : Cu R) (k x z : R) : R := k * k + c.a1 * k - c.a2 - x - z
def ng (c : Cu R) (x y : R) : R := -y - c.a1 * x - c.a3
variable {c : Cu R} {k x y z w e s t : R}
theorem Sl.comm (h : Sl c k x y z w) : Sl c k z w x y := by
  unfold Sl at *
  grind
theorem Sl.line (h : Sl c k x y z w) (e : R) : k * (e - x) + y = k * (e - z) + w := by
  unfold Sl at h
  grind
theorem tx_comm : tx c k x z = tx c k z x := by
  unfold tx
  grind
theorem Sl.rot (h : Sl c k x y z w) (he : e = tx c k x z) : Sl c k z w e (k * (e - x) + y) := by
  unfold Sl tx at *
  grind
theorem Sl.third (h : Sl c k x y z w) (he : e = tx c k x z) : tx c k z e = x := by
  unfold Sl tx at *
  grind
theorem Sl.on (h : Sl c k x y z w) (o : On c x y) (he : e = tx c k x z) : On c e (k * (e - x) + y) := by
  unfold Sl tx On at *
  obtain ⟨h1, h2⟩ := h
  cases c with
  | mk a1 a2 a3 a4 a6 =>
    dsimp only at *
    have e1 : w = k * (z - x) + y := by grind
    have e2 : a4 = k * (y + w + a1 * z + a3) - (x * x + x * z + z * z + a2 * (x + z) - a1 * y) := by grind
    have e3 : a6 = y * y + a1 * x * y + a3 * y - (x * x * x + a2 * x * x + a4 * x) := by grind
    subst e3
    subst e2
    subst e1
    subst he
    clear h1 h2 o
    grind
theorem On.ng (o : On c x y) : On c x (ng c x y) := by
  unfold On EcF.ng at *
  grind
theorem ng_ng : ng c x (ng c x y) = y := by
  unfold ng
  grind
theorem Sl.ng (h : Sl c k x y z w) : Sl c (-k - c.a1) x (ng c x y) z (ng c z w) := by
  unfold Sl EcF.ng at *
  grind
theorem tx_ng : tx c (-k - c.a1) x z = tx c k x z := by
  unfold tx
  grind
/-- a point where the curve has no one tangent -/
def Flat (c : Cu R) : Prop := ∀ x y : R, On c x y → 2 * y + c.a1 * x + c.a3 = 0 → 3 * x * x + 2 * c.a2 * x + c.a4 - c.a1 * y = 0 → False
/-- the slope is one -/
theorem Sl.uniq (nz : Nz R) {k' : R} (h : Sl c k x y z w) (h' : Sl c k' x y z w) (o : On c x y) (o' : On c z w) (hn : ¬(z = x ∧ w = EcF.ng c x y)) : k = k' := by
  have h1 : (k - k') * (z - x) = 0 := by
    unfold Sl at *
    grind
  have h2 : (k - k') * (y + w + c.a1 * z + c.a3) = 0 := by
    unfold Sl at *
    grind
  rcases nz _ _ h1 with g | g
  · grind
  · rcases nz _ _ h2 with g2 | g2
    · grind
    · exfalso
      refine hn ⟨by grind, ?_⟩
      unfold EcF.ng
      grind
/-- in the frame of the first line: the second lines' slopes -/
theorem frame1 (nz : Nz R) {a1 a3 b cc d e s q t : R} (h1 : d = s * (cc - b)) (h2 : s * (d + a1 * cc + a3) = cc * (cc - e)) (h3 : q = s * s + a1 * s + e - cc) (h4 : t * q = -(s * (q - b)) - a1 * q - a3) (h5 : t * -(s * (q - b)) = (q - b) * (q - e)) (hb : ¬(q = 0 ∧ b = 0)) : s * t = e - q := by
  have e1 : (q - b) * (s * t - (e - q)) = 0 := by grind
  rcases nz _ _ e1 with g | g
  · have e2 : q = b := by grind
    subst e2
    have e3 : q * (s * t - (e - q)) = 0 := by grind
    rcases nz _ _ e3 with g2 | g2
    · exact absurd ⟨g2, g2⟩ hb
    · grind
  · grind
theorem frame2 {a1 a3 b cc d e s q t u : R} (h1 : d = s * (cc - b)) (h2 : s * (d + a1 * cc + a3) = cc * (cc - e)) (h3 : q = s * s + a1 * s + e - cc) (h4 : t * q = -(s * (q - b)) - a1 * q - a3) (h6 : s * t = e - q) (hu : u = s + t) : u * (cc - e) = d + a1 * e + a3 ∧ u * (d + a1 * (cc - e)) = cc * (cc - b) + a1 * (a1 * e + a3) := by
  have g1 : cc = s * (s + t + a1) := by grind
  have g2 : (s + t + a1) * q = s * b - a3 := by grind
  have g3 : a3 = s * b - (s + t + a1) * q := by grind
  have g4 : q = e - s * t := by grind
  subst hu
  subst g3
  subst g4
  subst g1
  subst h1
  constructor
  · grind
  · grind
theorem mv1 {k a y w : R} (h : k * a = w - y) : w = y + k * a := by grind
theorem mv2 {l p q r : R} (h : l = p + q - r) : q = l - (p - r) := by grind
theorem frame3 {a1 a3 b cc d e s q t E : R} (h1 : d = s * (cc - b)) (h2 : s * (d + a1 * cc + a3) = cc * (cc - e)) (h3 : q = s * s + a1 * s + e - cc) (h4 : t * q = -(s * (q - b)) - a1 * q - a3) (h6 : s * t = e - q) (hE : E = t * t + a1 * t + b + e - q) : (s + t) * (E - e) - a1 * e - a3 = t * E := by
  have g3 : a3 = s * b - (s + t + a1) * q := by
    clear h1 h2 h3 hE h6
    grind
  have g4 : q = e - s * t := by
    clear h1 h2 h3 h4 g3 hE
    grind
  subst hE
  subst g3
  subst g4
  clear h1 h2 h3 h4 h6
  grind
section
variable {a1 a2 a3 a4 x1 y1 x2 y2 x3 y3 xa xc yc : R}
theorem fr1 (k1 : k * (x2 - x1) = y2 - y1) (s1 : s * (x3 - x2) = y3 - y2) : y3 - y1 - k * (x3 - x1) = (s - k) * ((x3 - x1) - (x2 - x1)) := by grind
theorem fr2 (k1 : k * (x2 - x1) = y2 - y1) (k2 : k * (y1 + y2 + a1 * x2 + a3) = x1 * x1 + x1 * x2 + x2 * x2 + a2 * (x1 + x2) + a4 - a1 * y1) (s1 : s * (x3 - x2) = y3 - y2)
    (s2 : s * (y2 + y3 + a1 * x3 + a3) = x2 * x2 + x2 * x3 + x3 * x3 + a2 * (x2 + x3) + a4 - a1 * y2) (ea : xa = k * k + a1 * k - a2 - x1 - x2) :
    (s - k) * ((y3 - y1 - k * (x3 - x1)) + (a1 + 2 * k) * (x3 - x1) + (a3 + a1 * x1 + 2 * y1)) = (x3 - x1) * ((x3 - x1) - (xa - x1)) := by
  have e1 := mv1 k1
  have e2 := mv1 s1
  have e3 := mv2 k2
  subst e3
  subst e2
  subst e1
  subst ea
  clear k1 k2 s1
  grind
theorem fr3 (ea : xa = k * k + a1 * k - a2 - x1 - x2) (ec : xc = s * s + a1 * s - a2 - x2 - x3) : xc - x1 = (s - k) * (s - k) + (a1 + 2 * k) * (s - k) + (xa - x1) - (x3 - x1) := by
  subst ea
  subst ec
  grind
theorem fr4 (k1 : k * (x2 - x1) = y2 - y1) (t1 : t * (xc - x1) = yc - y1) (fc : yc = -(s * (xc - x2) + y2) - a1 * xc - a3) :
    (t - k) * (xc - x1) = -((s - k) * ((xc - x1) - (x2 - x1))) - (a1 + 2 * k) * (xc - x1) - (a3 + a1 * x1 + 2 * y1) := by
  have e1 := mv1 k1
  subst fc
  subst e1
  clear k1
  grind
theorem fr5 (k1 : k * (x2 - x1) = y2 - y1) (k2 : k * (y1 + y2 + a1 * x2 + a3) = x1 * x1 + x1 * x2 + x2 * x2 + a2 * (x1 + x2) + a4 - a1 * y1) (t1 : t * (xc - x1) = yc - y1)
    (t2 : t * (y1 + yc + a1 * xc + a3) = x1 * x1 + x1 * xc + xc * xc + a2 * (x1 + xc) + a4 - a1 * y1) (ea : xa = k * k + a1 * k - a2 - x1 - x2) (fc : yc = -(s * (xc - x2) + y2) - a1 * xc - a3) :
    (t - k) * -((s - k) * ((xc - x1) - (x2 - x1))) = ((xc - x1) - (x2 - x1)) * ((xc - x1) - (xa - x1)) := by
  have e1 := mv1 k1
  have e3 := mv2 k2
  subst e3
  subst fc
  subst e1
  subst ea
  clear k1 k2
  grind
theorem fr6 (k1 : k * (x2 - x1) = y2 - y1) (fc : yc = -(s * (xc - x2) + y2) - a1 * xc - a3) (z1 : xc - x1 = 0) (z2 : x2 - x1 = 0) : yc = -y1 - a1 * x1 - a3 := by
  have e1 : x2 = x1 := by grind
  have e2 : xc = x1 := by grind
  subst e1
  subst e2
  grind
theorem fr7 (k1 : k * (x2 - x1) = y2 - y1) (ea : xa = k * k + a1 * k - a2 - x1 - x2) (k2 : k * (y1 + y2 + a1 * x2 + a3) = x1 * x1 + x1 * x2 + x2 * x2 + a2 * (x1 + x2) + a4 - a1 * y1) {u : R}
    (g1 : u * ((x3 - x1) - (xa - x1)) = (y3 - y1 - k * (x3 - x1)) + (a1 + 2 * k) * (xa - x1) + (a3 + a1 * x1 + 2 * y1))
    (g2 : u * ((y3 - y1 - k * (x3 - x1)) + (a1 + 2 * k) * ((x3 - x1) - (xa - x1))) = (x3 - x1) * ((x3 - x1) - (x2 - x1)) + (a1 + 2 * k) * ((a1 + 2 * k) * (xa - x1) + (a3 + a1 * x1 + 2 * y1))) :
    (u + k) * (x3 - xa) = y3 - (-(k * (xa - x1) + y1) - a1 * xa - a3) ∧ (u + k) * ((-(k * (xa - x1) + y1) - a1 * xa - a3) + y3 + a1 * x3 + a3) = xa * xa + xa * x3 + x3 * x3 + a2 * (xa + x3) + a4 - a1 * (-(k * (xa - x1) + y1) - a1 * xa - a3) := by
  have e1 := mv1 k1
  have e3 := mv2 k2
  subst e3
  subst e1
  have e4 : x2 = k * k + a1 * k - a2 - x1 - xa := by
    clear k1 k2 g1 g2
    grind
  clear k1 k2 ea
  constructor
  · clear g2
    grind
  · subst e4
    grind
end
/-- the sum of three, where no two are opposite -/
theorem three (nz : Nz R) {x1 y1 x2 y2 x3 y3 xa ya xc yc : R} (hk : Sl c k x1 y1 x2 y2) (ea : xa = tx c k x1 x2) (fa : ya = EcF.ng c xa (k * (xa - x1) + y1))
    (hs : Sl c s x2 y2 x3 y3) (ec : xc = tx c s x2 x3) (fc : yc = EcF.ng c xc (s * (xc - x2) + y2)) (ht : Sl c t x1 y1 xc yc) (hc : ¬(xc = x1 ∧ yc = EcF.ng c x1 y1)) :
    Sl c (s + t - k) xa ya x3 y3 ∧ tx c (s + t - k) xa x3 = tx c t x1 xc ∧ (s + t - k) * (tx c t x1 xc - xa) + ya = t * (tx c t x1 xc - x1) + y1 := by
  obtain ⟨k1, k2⟩ := hk
  obtain ⟨s1, s2⟩ := hs
  obtain ⟨t1, t2⟩ := ht
  have h1 := fr1 k1 s1
  have h2 := fr2 k1 k2 s1 s2 ea
  have h3 := fr3 ea ec
  have h4 := fr4 k1 t1 fc
  have h5 := fr5 k1 k2 t1 t2 ea fc
  have h6 := frame1 nz h1 h2 h3 h4 h5 fun z => hc ⟨by have := z.1; grind, fr6 k1 fc z.1 z.2⟩
  obtain ⟨g1, g2⟩ := frame2 h1 h2 h3 h4 h6 rfl
  have hE : tx c t x1 xc - x1 = (t - k) * (t - k) + (c.a1 + 2 * k) * (t - k) + (x2 - x1) + (xa - x1) - (xc - x1) := by
    clear h1 h2 h3 h4 h5 h6 g1 g2 k1 k2 s1 s2 t1 t2 fc hc ec fa
    unfold tx at *
    subst ea
    grind
  have h8 := frame3 h1 h2 h3 h4 h6 hE
  have e : s + t - k = (s - k + (t - k)) + k := by grind
  subst fa
  refine ⟨?_, ?_, ?_⟩
  · rw [e]
    exact fr7 k1 ea k2 g1 g2
  · clear h1 h2 h4 h5 g1 g2 k1 k2 s1 s2 t1 t2 fc hc e h8 hE
    unfold tx at *
    grind
  · clear h1 h2 h3 h4 h5 h6 g1 g2 k1 k2 s1 s2 t1 t2 fc hc e hE ea ec
    generalize tx c t x1 xc = E at *
    unfold EcF.ng
    grind
/-! ### points -/
abbrev Pn (R : Type) := Option (R × R)
def OnP (c : Cu R) : Pn R → Prop
  | none => True
  | some (x, y) => On c x y
def neg (c : Cu R) : Pn R → Pn R
  | none => none
  | some (x, y) => some (x, ng c x y)
/-- T is the sum of A and B -/
def Is (c : Cu R) : Pn R → Pn R → Pn R → Prop
  | none, B, T => T = B
  | some a, none, T => T = some a
  | some (x, y), some (z, w), T => ((z = x ∧ w = ng c x y) ∧ T = none) ∨ (¬(z = x ∧ w = ng c x y) ∧ ∃ k, Sl c k x y z w ∧ T = some (tx c k x z, ng c (tx c k x z) (k * (tx c k x z - x) + y)))
variable {A B D T M N X Y : Pn R}
theorem OnP.neg (o : OnP c A) : OnP c (neg c A) := by
  match A, o with
  | none, _ => trivial
  | some (x, y), o => exact On.ng o
theorem neg_neg : neg c (neg c A) = A := by
  match A with
  | none => rfl
  | some (x, y) =>
    show some (x, EcF.ng c x (EcF.ng c x y)) = _
    rw [ng_ng]
theorem opp_comm {x y z w : R} (h : z = x ∧ w = EcF.ng c x y) : x = z ∧ y = EcF.ng c z w := by
  obtain ⟨rfl, rfl⟩ := h
  exact ⟨rfl, ng_ng.symm⟩
theorem Is.comm (h : Is c A B T) : Is c B A T := by
  match A, B, h with
  | none, none, h => exact h
  | none, some b, h => exact h
  | some a, none, h => exact h
  | some (x, y), some (z, w), h =>
    rcases h with ⟨h1, h2⟩ | ⟨h1, k, h2, h3⟩
    · exact .inl ⟨opp_comm h1, h2⟩
    · refine .inr ⟨fun g => h1 (opp_comm g), k, h2.comm, ?_⟩
      rw [tx_comm (x := z), ← h2.line]
      exact h3
theorem Is.on (h : Is c A B T) (oa : OnP c A) (ob : OnP c B) : OnP c T := by
  match A, B, h with
  | none, b, h =>
    have e : T = b := h
    rw [e]
    exact ob
  | some a, none, h =>
    have e : T = some a := h
    rw [e]
    exact oa
  | some (x, y), some (z, w), h =>
    rcases h with ⟨h1, h2⟩ | ⟨h1, k, h2, h3⟩
    · rw [h2]
      trivial
    · rw [h3]
      exact On.ng (h2.on oa rfl)
theorem Is.uniq (nz : Nz R) (oa : OnP c A) (ob : OnP c B) (h : Is c A B T) (h' : Is c A B X) : T = X := by
  match A, B, h, h' with
  | none, _, h, h' => exact Eq.trans h (Eq.symm h')
  | some a, none, h, h' => exact Eq.trans h (Eq.symm h')
  | some (x, y), some (z, w), h, h' =>
    rcases h with ⟨h1, h2⟩ | ⟨h1, k, h2, h3⟩
    · rcases h' with ⟨g1, g2⟩ | ⟨g1, _⟩
      · rw [h2, g2]
      · exact absurd h1 g1
    · rcases h' with ⟨g1, _⟩ | ⟨g1, k', g2, g3⟩
      · exact absurd g1 h1
      · have e := Sl.uniq nz h2 g2 oa ob h1
        subst e
        rw [h3, g3]
/-- a line meets the curve in three points -/
theorem Is.opp (nz : Nz R) (fl : Flat c) (oa : OnP c A) (ob : OnP c B) (h : Is c A B (neg c D)) : Is c B D (neg c A) := by
  match A, B, D, h with
  | none, b, d, h =>
    have e : neg c d = b := h
    subst e
    match d with
    | none => exact rfl
    | some (x, y) => exact .inl ⟨⟨rfl, ng_ng.symm⟩, rfl⟩
  | some a, none, d, h =>
    have e : neg c d = some a := h
    rw [← e, neg_neg]
    exact rfl
  | some (x, y), some (z, w), none, h =>
    rcases h with ⟨⟨h1, h2⟩, _⟩ | ⟨_, k, _, h3⟩
    · subst h1
      subst h2
      exact rfl
    · exact nomatch h3
  | some (x, y), some (z, w), some (e, f), h =>
    rcases h with ⟨_, h2⟩ | ⟨h1, k, h2, h3⟩
    · exact nomatch h2
    · have h3' : (e, EcF.ng c e f) = (tx c k x z, EcF.ng c (tx c k x z) (k * (tx c k x z - x) + y)) := Option.some.inj h3
      have e1 : e = tx c k x z := congrArg Prod.fst h3'
      have e2 : EcF.ng c e f = EcF.ng c e (k * (e - x) + y) := by
        have := congrArg Prod.snd h3'
        rw [e1]
        rw [e1] at this
        exact this
      have e3 : f = k * (e - x) + y := by
        have := congrArg (EcF.ng c e) e2
        rwa [ng_ng, ng_ng] at this
      have h4 := h2.rot e1
      rw [← e3] at h4
      by_cases g : e = z ∧ f = EcF.ng c z w
      · exfalso
        obtain ⟨g1, g2⟩ := g
        have g3 : f = w := by
          have := h4.1
          rw [g1] at this
          clear g2 e3 e2 h2 h4
          grind
        have g4 := h4.2
        rw [g1] at g4
        rw [g3] at g2 g4
        refine fl z w ob ?_ ?_
        · unfold EcF.ng at g2
          clear g4 h4 h2 e2 e3
          grind
        · unfold EcF.ng at g2
          clear h4 h2 e2 e3
          grind
      · refine .inr ⟨g, k, h4, ?_⟩
        show some (x, EcF.ng c x y) = _
        rw [h2.third e1]
        have : k * (x - z) + w = y := by
          have := h2.1
          clear g h4 e2 e3 h2 h1 h3 e1
          grind
        rw [this]
theorem ng_inj {x y w : R} (h : EcF.ng c x y = EcF.ng c x w) : y = w := by
  have := congrArg (EcF.ng c x) h
  rwa [ng_ng, ng_ng] at this
theorem line_ng {e : R} : EcF.ng c e (k * (e - x) + y) = (-k - c.a1) * (e - x) + EcF.ng c x y := by
  unfold EcF.ng
  grind
theorem Is.neg_all (h : Is c A B T) : Is c (neg c A) (neg c B) (neg c T) := by
  match A, B, h with
  | none, b, h =>
    have e : T = b := h
    rw [e]
    exact rfl
  | some a, none, h =>
    have e : T = some a := h
    rw [e]
    exact rfl
  | some (x, y), some (z, w), h =>
    rcases h with ⟨⟨h1, h2⟩, h3⟩ | ⟨h1, k, h2, h3⟩
    · subst h1
      subst h2
      subst h3
      exact .inl ⟨⟨rfl, rfl⟩, rfl⟩
    · subst h3
      refine .inr ⟨?_, -k - c.a1, h2.ng, ?_⟩
      · rintro ⟨g1, g2⟩
        subst g1
        exact h1 ⟨rfl, ng_inj g2⟩
      · show some (tx c k x z, EcF.ng c (tx c k x z) (EcF.ng c (tx c k x z) (k * (tx c k x z - x) + y))) = _
        rw [tx_ng, line_ng (e := tx c k x z)]
theorem Is.canc (nz : Nz R) (fl : Flat c) (oa : OnP c A) (ob : OnP c B) (h : Is c A B T) : Is c T (neg c B) A := by
  have h0 : Is c A B (neg c (neg c T)) := by rw [neg_neg]; exact h
  have h1 := (h0.opp nz fl oa ob).neg_all
  rw [neg_neg, neg_neg] at h1
  exact h1.comm
theorem is_none_iff {a b : R × R} (h : Is c (some a) (some b) T) : T = none ↔ some b = neg c (some a) := by
  obtain ⟨x, y⟩ := a
  obtain ⟨z, w⟩ := b
  rcases h with ⟨⟨h1, h2⟩, h3⟩ | ⟨h1, k, h2, h3⟩
  · subst h1
    subst h2
    exact ⟨fun _ => rfl, fun _ => h3⟩
  · refine ⟨fun e => ?_, fun e => ?_⟩
    · rw [h3] at e
      exact nomatch e
    · have e' : (z, w) = (x, EcF.ng c x y) := Option.some.inj e
      exact absurd ⟨congrArg Prod.fst e', congrArg Prod.snd e'⟩ h1
theorem Is.neg_self : Is c A (neg c A) none := by
  match A with
  | none => exact rfl
  | some (x, y) => exact .inl ⟨⟨rfl, rfl⟩, rfl⟩
/-- the law of three -/
theorem Is.assoc (nz : Nz R) (fl : Flat c) (oa : OnP c A) (ob : OnP c B) (od : OnP c D) (hm : Is c A B M) (hx : Is c M D X) (hn : Is c B D N) (hy : Is c A N Y) : X = Y := by
  have om := hm.on oa ob
  have on := hn.on ob od
  match A, B, D, oa, ob, od, hm, hn, hy, hx with
  | none, b, d, oa, ob, od, hm, hn, hy, hx =>
    have e1 : M = b := hm
    have e2 : Y = N := hy
    subst e1
    subst e2
    exact hx.uniq nz ob od hn
  | some a, none, d, oa, ob, od, hm, hn, hy, hx =>
    have e1 : M = some a := hm
    have e2 : N = d := hn
    subst e1
    subst e2
    exact hx.uniq nz oa od hy
  | some a, some b, none, oa, ob, od, hm, hn, hy, hx =>
    have e1 : N = some b := hn
    have e2 : X = M := hx.comm
    subst e1
    subst e2
    exact hm.uniq nz oa ob hy
  | some a, some b, some d, oa, ob, od, hm, hn, hy, hx =>
    by_cases g1 : some b = neg c (some a)
    · have e1 : M = none := (is_none_iff hm).mpr g1
      subst e1
      have e2 : X = some d := hx
      rw [g1] at hn
      have h1 := (hn.comm).canc nz fl od oa.neg
      rw [neg_neg] at h1
      rw [e2]
      exact h1.comm.uniq nz oa on hy
    by_cases g2 : some d = neg c (some b)
    · have e1 : N = none := (is_none_iff hn).mpr g2
      subst e1
      have e2 : Y = some a := hy
      rw [e2]
      have h1 := hm.canc nz fl oa ob
      rw [← g2] at h1
      exact hx.uniq nz om od h1
    have nm : M ≠ none := fun e => g1 ((is_none_iff hm).mp e)
    have nn : N ≠ none := fun e => g2 ((is_none_iff hn).mp e)
    match M, N, om, on, hm, hn, hx, hy, nm, nn with
    | none, _, _, _, _, _, _, _, nm, _ => exact absurd rfl nm
    | some m, none, _, _, _, _, _, _, _, nn => exact absurd rfl nn
    | some m, some n, om, on, hm, hn, hx, hy, _, _ =>
      by_cases g3 : some d = neg c (some m)
      · have e1 : X = none := (is_none_iff hx).mpr g3
        have h0 : Is c (some a) (some b) (neg c (some d)) := by rw [g3, neg_neg]; exact hm
        have h1 := h0.opp nz fl oa ob
        have e2 := hn.uniq nz ob od h1
        rw [e1, (is_none_iff hy).mpr e2]
      by_cases g4 : some n = neg c (some a)
      · exfalso
        rw [g4] at hn
        have h1 := (hn.opp nz fl ob od).opp nz fl od oa
        have e2 := hm.uniq nz oa ob h1
        refine g3 ?_
        rw [e2, neg_neg]
      obtain ⟨x1, y1⟩ := a
      obtain ⟨x2, y2⟩ := b
      obtain ⟨x3, y3⟩ := d
      obtain ⟨xa, ya⟩ := m
      obtain ⟨xc, yc⟩ := n
      rcases hm with ⟨_, e⟩ | ⟨m1, k, m2, m3⟩
      · exact nomatch e
      rcases hn with ⟨_, e⟩ | ⟨n1, s, n2, n3⟩
      · exact nomatch e
      rcases hx with ⟨⟨z1, z2⟩, _⟩ | ⟨x1', u, u2, u3⟩
      · exact absurd (by rw [z1, z2]; rfl) g3
      rcases hy with ⟨⟨z1, z2⟩, _⟩ | ⟨y1', t, t2, t3⟩
      · exact absurd (by rw [z1, z2]; rfl) g4
      have m4 := Option.some.inj m3
      have n4 := Option.some.inj n3
      have ea : xa = tx c k x1 x2 := congrArg Prod.fst m4
      have fa : ya = EcF.ng c xa (k * (xa - x1) + y1) := by rw [ea]; exact congrArg Prod.snd m4
      have ec : xc = tx c s x2 x3 := congrArg Prod.fst n4
      have fc : yc = EcF.ng c xc (s * (xc - x2) + y2) := by rw [ec]; exact congrArg Prod.snd n4
      obtain ⟨w1, w2, w3⟩ := three nz m2 ea fa n2 ec fc t2 y1'
      have e := u2.uniq nz w1 om od x1'
      subst e
      rw [u3, t3, w2]
      rw [w3]
end
end EcF
/-! Points of a curve of five whole numbers modulo a prime: the sum by digits, and its laws. Plain mathematics. -/
set_option linter.all false
namespace EcZ
open K45M (Mo Dg Un Inv)
def st (p : Int) : Setoid Int := ⟨Mo p, fun _ => Mo.rfl', fun h => h.symm, fun h k => h.trans k⟩
def Zp (p : Int) := Quotient (st p)
def q (p a : Int) : Zp p := Quotient.mk (st p) a
theorem q_eq {p a b : Int} : q p a = q p b ↔ Mo p a b := ⟨fun h => Quotient.exact h, fun h => Quotient.sound (s := st p) h⟩
def zadd {p : Int} (a b : Zp p) : Zp p := Quotient.lift₂ (fun x y => q p (x + y)) (fun _ _ _ _ h k => q_eq.mpr (Mo.add h k)) a b
def zmul {p : Int} (a b : Zp p) : Zp p := Quotient.lift₂ (fun x y => q p (x * y)) (fun _ _ _ _ h k => q_eq.mpr (Mo.mul h k)) a b
def zsub {p : Int} (a b : Zp p) : Zp p := Quotient.lift₂ (fun x y => q p (x - y)) (fun _ _ _ _ h k => q_eq.mpr (Mo.sub h k)) a b
def zneg {p : Int} (a : Zp p) : Zp p := Quotient.lift (fun x => q p (-x)) (fun _ _ h => q_eq.mpr (Mo.neg h)) a
def zpow {p : Int} (a : Zp p) : Nat → Zp p
  | 0 => q p 1
  | n + 1 => zmul (zpow a n) a
instance (p : Int) : Lean.Grind.CommRing (Zp p) where
  add := zadd
  mul := zmul
  neg := zneg
  sub := zsub
  natCast := ⟨fun n => q p n⟩
  ofNat := fun n => ⟨q p n⟩
  nsmul := ⟨fun n a => zmul (q p n) a⟩
  npow := ⟨fun a n => zpow a n⟩
  intCast := ⟨fun i => q p i⟩
  zsmul := ⟨fun i a => zmul (q p i) a⟩
  add_zero a := by
    refine Quotient.inductionOn a fun x => ?_
    show q p (x + 0) = q p x
    rw [Int.add_zero]
  add_comm a b := by
    refine Quotient.inductionOn₂ a b fun x y => ?_
    show q p (x + y) = q p (y + x)
    rw [Int.add_comm]
  add_assoc a b c := by
    refine Quotient.inductionOn₃ a b c fun x y z => ?_
    show q p (x + y + z) = q p (x + (y + z))
    rw [Int.add_assoc]
  mul_assoc a b c := by
    refine Quotient.inductionOn₃ a b c fun x y z => ?_
    show q p (x * y * z) = q p (x * (y * z))
    rw [Int.mul_assoc]
  mul_one a := by
    refine Quotient.inductionOn a fun x => ?_
    show q p (x * 1) = q p x
    rw [Int.mul_one]
  one_mul a := by
    refine Quotient.inductionOn a fun x => ?_
    show q p (1 * x) = q p x
    rw [Int.one_mul]
  mul_zero a := by
    refine Quotient.inductionOn a fun x => ?_
    show q p (x * 0) = q p 0
    rw [Int.mul_zero]
  right_distrib a b c := by
    refine Quotient.inductionOn₃ a b c fun x y z => ?_
    show q p ((x + y) * z) = q p (x * z + y * z)
    rw [Int.add_mul]
  mul_comm a b := by
    refine Quotient.inductionOn₂ a b fun x y => ?_
    show q p (x * y) = q p (y * x)
    rw [Int.mul_comm]
  left_distrib a b c := by
    refine Quotient.inductionOn₃ a b c fun x y z => ?_
    show q p (x * (y + z)) = q p (x * y + x * z)
    rw [Int.mul_add]
  zero_mul a := by
    refine Quotient.inductionOn a fun x => ?_
    show q p (0 * x) = q p 0
    rw [Int.zero_mul]
  pow_zero a := rfl
  pow_succ a n := rfl
  ofNat_succ n := by
    show q p (((n + 1 : Nat) : Int)) = q p ((n : Int) + 1)
    rfl
  neg_add_cancel a := by
    refine Quotient.inductionOn a fun x => ?_
    show q p (-x + x) = q p 0
    rw [Int.add_left_neg]
  sub_eq_add_neg a b := by
    refine Quotient.inductionOn₂ a b fun x y => ?_
    show q p (x - y) = q p (x + -y)
    rw [Int.sub_eq_add_neg]
  neg_zsmul i a := by
    refine Quotient.inductionOn a fun x => ?_
    show q p (-i * x) = q p (-(i * x))
    rw [Int.neg_mul]
  intCast_neg i := rfl
theorem q_mod {p a : Int} : q p (a % p) = q p a := q_eq.mpr Mo.mod
theorem q_dg {p a b : Int} (ha : Dg p a) (hb : Dg p b) (h : q p a = q p b) : a = b := ha.eq hb (q_eq.mp h)
/-- a prime: what is not nought has an inverse -/
def Pp (p : Int) : Prop := 1 < p ∧ ∀ z, ¬Mo p z 0 → Un p z
theorem Pp.nz {p : Int} (hp : Pp p) : EcF.Nz (Zp p) := by
  intro a b
  refine Quotient.inductionOn₂ a b fun x y h => ?_
  have h1 : Mo p (x * y) 0 := Quotient.exact h
  by_cases g : Mo p y 0
  · exact .inr (q_eq.mpr g)
  · exact .inl (q_eq.mpr ((K45M.zero_unit (hp.2 y g)).mp h1))
/-- five whole numbers -/
structure C5 where
  a1 : Int
  a2 : Int
  a3 : Int
  a4 : Int
  a6 : Int
def C5.q (p : Int) (c : C5) : EcF.Cu (Zp p) := ⟨EcZ.q p c.a1, EcZ.q p c.a2, EcZ.q p c.a3, EcZ.q p c.a4, EcZ.q p c.a6⟩
namespace C5
variable (c : C5)
def b2 : Int := c.a1 * c.a1 + 4 * c.a2
def b4 : Int := 2 * c.a4 + c.a1 * c.a3
def b6 : Int := c.a3 * c.a3 + 4 * c.a6
def b8 : Int := c.a1 * c.a1 * c.a6 + 4 * c.a2 * c.a6 - c.a1 * c.a3 * c.a4 + c.a2 * c.a3 * c.a3 - c.a4 * c.a4
def disc : Int := 9 * c.b2 * c.b4 * c.b6 - c.b2 * c.b2 * c.b8 - 8 * (c.b4 * c.b4 * c.b4) - 27 * c.b6 * c.b6
theorem b8_4 : c.b2 * c.b6 - c.b4 * c.b4 = 4 * c.b8 := by
  unfold b2 b4 b6 b8
  grind
end C5
theorem flat_ring {R : Type} [Lean.Grind.CommRing R] {a1 a2 a3 a4 a6 x y b2 b4 b6 b8 : R} (h2 : b2 = a1 * a1 + 4 * a2) (h4 : b4 = 2 * a4 + a1 * a3) (h6 : b6 = a3 * a3 + 4 * a6) (h8 : b8 = a1 * a1 * a6 + 4 * a2 * a6 - a1 * a3 * a4 + a2 * a3 * a3 - a4 * a4)
    (o : y * y + a1 * x * y + a3 * y = x * x * x + a2 * x * x + a4 * x + a6) (f1 : 2 * y + a1 * x + a3 = 0) (f2 : 3 * x * x + 2 * a2 * x + a4 - a1 * y = 0) : 9 * b2 * b4 * b6 - b2 * b2 * b8 - 8 * (b4 * b4 * b4) - 27 * b6 * b6 = 0 := by
  have e3 : a3 = -(2 * y) - a1 * x := by
    clear o f2 h2 h4 h6 h8
    grind
  have e4 : a4 = a1 * y - 3 * x * x - 2 * a2 * x := by
    clear o f1 e3 h2 h4 h6 h8
    grind
  have e6 : a6 = y * y + a1 * x * y + a3 * y - (x * x * x + a2 * x * x + a4 * x) := by
    clear f1 f2 e3 e4 h2 h4 h6 h8
    grind
  clear o f1 f2
  subst e6
  subst e4
  subst e3
  subst h2
  subst h4
  subst h6
  subst h8
  grind
theorem flat_q {p : Int} {c : C5} (h : ¬Mo p c.disc 0) : EcF.Flat (c.q p) := by
  intro x y o f1 f2
  refine h (q_eq.mp ?_)
  exact flat_ring (R := Zp p) (a1 := q p c.a1) (a2 := q p c.a2) (a3 := q p c.a3) (a4 := q p c.a4) (a6 := q p c.a6) (x := x) (y := y) (b2 := q p c.b2) (b4 := q p c.b4) (b6 := q p c.b6) (b8 := q p c.b8) rfl rfl rfl rfl o f1 f2
/-! ### points by digits -/
abbrev Pt := Option (Int × Int)
def PtK (p : Int) (c : C5) : Pt → Prop
  | none => True
  | some (x, y) => Dg p x ∧ Dg p y ∧ EcF.On (c.q p) (q p x) (q p y)
def qp (p : Int) : Pt → EcF.Pn (Zp p)
  | none => none
  | some (x, y) => some (q p x, q p y)
def pneg (p : Int) (c : C5) : Pt → Pt
  | none => none
  | some (x, y) => some (x, (-y - c.a1 * x - c.a3) % p)
/-- the slope -/
noncomputable def slo (p : Int) (c : C5) (x y z w : Int) : Int :=
  if x = z then (3 * x * x + 2 * c.a2 * x + c.a4 - c.a1 * y) * K45M.iv p (2 * y + c.a1 * x + c.a3) else (w - y) * K45M.iv p (z - x)
def far (p : Int) (c : C5) (k x y z : Int) : Int × Int := ((k * k + c.a1 * k - c.a2 - x - z) % p, (-(k * ((k * k + c.a1 * k - c.a2 - x - z) % p - x) + y) - c.a1 * ((k * k + c.a1 * k - c.a2 - x - z) % p) - c.a3) % p)
noncomputable def psum (p : Int) (c : C5) : Pt → Pt → Pt
  | none, B => B
  | some a, none => some a
  | some (x, y), some (z, w) => if z = x ∧ w = (-y - c.a1 * x - c.a3) % p then none else some (far p c (slo p c x y z w) x y z)
section
variable {p : Int} {c : C5} {A B D : Pt}
theorem far_q (k x y z : Int) : qp p (some (far p c k x y z)) = some (EcF.tx (c.q p) (q p k) (q p x) (q p z), EcF.ng (c.q p) (EcF.tx (c.q p) (q p k) (q p x) (q p z)) (q p k * (EcF.tx (c.q p) (q p k) (q p x) (q p z) - q p x) + q p y)) := by
  have e : q p ((k * k + c.a1 * k - c.a2 - x - z) % p) = EcF.tx (c.q p) (q p k) (q p x) (q p z) := q_mod
  show some (q p ((k * k + c.a1 * k - c.a2 - x - z) % p), q p ((-(k * ((k * k + c.a1 * k - c.a2 - x - z) % p - x) + y) - c.a1 * ((k * k + c.a1 * k - c.a2 - x - z) % p) - c.a3) % p)) = _
  rw [q_mod (a := -(k * ((k * k + c.a1 * k - c.a2 - x - z) % p - x) + y) - c.a1 * ((k * k + c.a1 * k - c.a2 - x - z) % p) - c.a3), ← e]
  rfl
theorem far_dg (hp : 0 < p) (k x y z : Int) : Dg p (far p c k x y z).1 ∧ Dg p (far p c k x y z).2 := ⟨Dg.mod hp, Dg.mod hp⟩
theorem qp_inj (ha : PtK p c A) (hb : PtK p c B) (h : qp p A = qp p B) : A = B := by
  match A, B, ha, hb, h with
  | none, none, _, _, _ => rfl
  | none, some _, _, _, h => exact nomatch h
  | some _, none, _, _, h => exact nomatch h
  | some (x, y), some (z, w), ha, hb, h =>
    have h' := Option.some.inj h
    rw [q_dg ha.1 hb.1 (congrArg Prod.fst h'), q_dg ha.2.1 hb.2.1 (congrArg Prod.snd h')]
theorem PtK.onP (h : PtK p c A) : EcF.OnP (c.q p) (qp p A) := by
  match A, h with
  | none, _ => trivial
  | some (x, y), h => exact h.2.2
theorem PtK.of_on {a : Int × Int} (h1 : Dg p a.1) (h2 : Dg p a.2) (h : EcF.OnP (c.q p) (qp p (some a))) : PtK p c (some a) := ⟨h1, h2, h⟩
theorem pneg_q : qp p (pneg p c A) = EcF.neg (c.q p) (qp p A) := by
  match A with
  | none => rfl
  | some (x, y) =>
    show some (q p x, q p ((-y - c.a1 * x - c.a3) % p)) = _
    rw [q_mod]
    rfl
theorem pneg_ok (hp : 0 < p) (h : PtK p c A) : PtK p c (pneg p c A) := by
  match A, h with
  | none, _ => trivial
  | some (x, y), h =>
    refine PtK.of_on h.1 (Dg.mod hp) ?_
    rw [show some (x, (-y - c.a1 * x - c.a3) % p) = pneg p c (some (x, y)) from rfl, pneg_q]
    exact (PtK.onP (A := some (x, y)) h).neg
theorem opp_iff (hp : 0 < p) {x y z w : Int} (ha : PtK p c (some (x, y))) (hb : PtK p c (some (z, w))) : (z = x ∧ w = (-y - c.a1 * x - c.a3) % p) ↔ (q p z = q p x ∧ q p w = EcF.ng (c.q p) (q p x) (q p y)) := by
  constructor
  · rintro ⟨rfl, rfl⟩
    refine ⟨rfl, ?_⟩
    rw [q_mod]
    rfl
  · rintro ⟨h1, h2⟩
    refine ⟨q_dg hb.1 ha.1 h1, q_dg hb.2.1 (Dg.mod hp) ?_⟩
    rw [h2, q_mod]
    rfl
theorem iv_q (hp : Pp p) {u l : Int} (hl : ¬Mo p l 0) : q p (u * K45M.iv p l) * q p l = q p u := by
  obtain ⟨t, ht⟩ := hp.2 l hl
  have hi : Inv p l (t % p) := ⟨Dg.mod (by have := hp.1; omega), (Mo.mul Mo.rfl' Mo.mod).trans ht⟩
  rw [K45M.iv_eq hi]
  show q p (u * (t % p) * l) = _
  refine q_eq.mpr ?_
  have := (Mo.rfl' (n := p) (a := u)).mul hi.2
  rw [Int.mul_one] at this
  exact (Mo.of_eq (by ac_rfl)).trans this
theorem slo_ring1 {R : Type} [Lean.Grind.CommRing R] (nz : EcF.Nz R) {C : EcF.Cu R} {x y z w k : R} (o : EcF.On C x y) (o' : EcF.On C z w) (h : k * (z - x) = w - y) (hz : z - x ≠ 0) : EcF.Sl C k x y z w := by
  refine ⟨h, ?_⟩
  have e : (z - x) * (k * (y + w + C.a1 * z + C.a3) - (x * x + x * z + z * z + C.a2 * (x + z) + C.a4 - C.a1 * y)) = 0 := by
    have e1 : w = y + k * (z - x) := EcF.mv1 h
    unfold EcF.On at *
    subst e1
    clear h hz nz
    grind
  rcases nz _ _ e with g | g
  · exact absurd g hz
  · clear e o o' h hz
    grind
theorem same_x {R : Type} [Lean.Grind.CommRing R] (nz : EcF.Nz R) {C : EcF.Cu R} {x y w : R} (o : EcF.On C x y) (o' : EcF.On C x w) : w = y ∨ w = EcF.ng C x y := by
  have e : (w - y) * (w - EcF.ng C x y) = 0 := by
    unfold EcF.On EcF.ng at *
    grind
  rcases nz _ _ e with g | g
  · exact .inl (by clear e o o'; grind)
  · exact .inr (by clear e o o'; generalize EcF.ng C x y = n at *; grind)
theorem slo_q (hp : Pp p) {x y z w : Int} (ha : PtK p c (some (x, y))) (hb : PtK p c (some (z, w))) (hn : ¬(z = x ∧ w = (-y - c.a1 * x - c.a3) % p)) : EcF.Sl (c.q p) (q p (slo p c x y z w)) (q p x) (q p y) (q p z) (q p w) := by
  have hp0 : 0 < p := by have := hp.1; omega
  rw [opp_iff hp0 ha hb] at hn
  unfold slo
  by_cases g : x = z
  · rw [if_pos g]
    subst g
    rcases same_x hp.nz ha.2.2 hb.2.2 with g2 | g2
    · have e : w = y := q_dg hb.2.1 ha.2.1 g2
      subst e
      have hl : ¬Mo p (2 * w + c.a1 * x + c.a3) 0 := fun h => hn ⟨rfl, by
        have h1 : q p (2 * w + c.a1 * x + c.a3) = q p 0 := q_eq.mpr h
        have h2 : 2 * q p w + q p c.a1 * q p x + q p c.a3 = 0 := h1
        unfold EcF.ng
        show q p w = -q p w - q p c.a1 * q p x - q p c.a3
        clear h h1
        generalize q p w = W at *
        generalize q p x = X at *
        generalize q p c.a1 = A1 at *
        generalize q p c.a3 = A3 at *
        clear hn ha hb g2
        grind⟩
      have h := iv_q hp (u := 3 * x * x + 2 * c.a2 * x + c.a4 - c.a1 * w) hl
      refine ⟨?_, ?_⟩
      · generalize q p ((3 * x * x + 2 * c.a2 * x + c.a4 - c.a1 * w) * K45M.iv p (2 * w + c.a1 * x + c.a3)) = k
        generalize q p x = X
        generalize q p w = W
        grind
      · have h' : q p ((3 * x * x + 2 * c.a2 * x + c.a4 - c.a1 * w) * K45M.iv p (2 * w + c.a1 * x + c.a3)) * (2 * q p w + q p c.a1 * q p x + q p c.a3) = 3 * q p x * q p x + 2 * q p c.a2 * q p x + q p c.a4 - q p c.a1 * q p w := h
        show _ * (q p w + q p w + q p c.a1 * q p x + q p c.a3) = q p x * q p x + q p x * q p x + q p x * q p x + q p c.a2 * (q p x + q p x) + q p c.a4 - q p c.a1 * q p w
        generalize q p ((3 * x * x + 2 * c.a2 * x + c.a4 - c.a1 * w) * K45M.iv p (2 * w + c.a1 * x + c.a3)) = k at *
        clear h hn hl ha hb g2
        generalize q p w = W at *
        generalize q p x = X at *
        generalize q p c.a1 = A1 at *
        generalize q p c.a2 = A2 at *
        generalize q p c.a3 = A3 at *
        generalize q p c.a4 = A4 at *
        grind
    · exact absurd ⟨rfl, g2⟩ hn
  · rw [if_neg g]
    have hz : ¬Mo p (z - x) 0 := fun h => g ((K45M.sub_zero_iff hb.1 ha.1).mp h).symm
    have h := iv_q hp (u := w - y) hz
    exact slo_ring1 hp.nz ha.2.2 hb.2.2 h fun e => hz (q_eq.mp e)
theorem psum_is (hp : Pp p) (ha : PtK p c A) (hb : PtK p c B) : EcF.Is (c.q p) (qp p A) (qp p B) (qp p (psum p c A B)) := by
  have hp0 : 0 < p := by have := hp.1; omega
  match A, B, ha, hb with
  | none, b, _, _ => exact rfl
  | some a, none, _, _ => exact rfl
  | some (x, y), some (z, w), ha, hb =>
    by_cases g : z = x ∧ w = (-y - c.a1 * x - c.a3) % p
    · rw [show psum p c (some (x, y)) (some (z, w)) = none from if_pos g]
      exact .inl ⟨(opp_iff hp0 ha hb).mp g, rfl⟩
    · rw [show psum p c (some (x, y)) (some (z, w)) = some (far p c (slo p c x y z w) x y z) from if_neg g]
      exact .inr ⟨fun h => g ((opp_iff hp0 ha hb).mpr h), _, slo_q hp ha hb g, far_q _ _ _ _⟩
theorem psum_ok (hp : Pp p) (ha : PtK p c A) (hb : PtK p c B) : PtK p c (psum p c A B) := by
  have hp0 : 0 < p := by have := hp.1; omega
  have h := (psum_is hp ha hb).on ha.onP hb.onP
  match A, B, ha, hb, h with
  | none, b, _, hb, _ => exact hb
  | some a, none, ha, _, _ => exact ha
  | some (x, y), some (z, w), ha, hb, h =>
    by_cases g : z = x ∧ w = (-y - c.a1 * x - c.a3) % p
    · rw [show psum p c (some (x, y)) (some (z, w)) = none from if_pos g]
      trivial
    · rw [show psum p c (some (x, y)) (some (z, w)) = some (far p c (slo p c x y z w) x y z) from if_neg g] at h ⊢
      exact PtK.of_on (far_dg hp0 _ _ _ _).1 (far_dg hp0 _ _ _ _).2 h
theorem psum_comm (hp : Pp p) (ha : PtK p c A) (hb : PtK p c B) : psum p c A B = psum p c B A :=
  qp_inj (psum_ok hp ha hb) (psum_ok hp hb ha) ((psum_is hp ha hb).uniq hp.nz ha.onP hb.onP (psum_is hp hb ha).comm)
theorem psum_assoc (hp : Pp p) (hd : ¬Mo p c.disc 0) (ha : PtK p c A) (hb : PtK p c B) (hD : PtK p c D) : psum p c (psum p c A B) D = psum p c A (psum p c B D) :=
  qp_inj (psum_ok hp (psum_ok hp ha hb) hD) (psum_ok hp ha (psum_ok hp hb hD)) (EcF.Is.assoc hp.nz (flat_q hd) ha.onP hb.onP hD.onP (psum_is hp ha hb) (psum_is hp (psum_ok hp ha hb) hD) (psum_is hp hb hD) (psum_is hp ha (psum_ok hp hb hD)))
theorem psum_neg (hp : Pp p) (ha : PtK p c A) : psum p c A (pneg p c A) = none := by
  match A, ha with
  | none, _ => rfl
  | some (x, y), ha => exact if_pos ⟨rfl, rfl⟩
theorem psum_none : psum p c A none = A := by
  match A with
  | none => rfl
  | some a => rfl
end
end EcZ
/-! The two ways in which a sum modulo a prime is reckoned. Plain mathematics. -/
set_option linter.all false
namespace K41
open K45M EcZ
/-- a prime, and a curve of digits modulo it that is no flat one -/
structure Okc (p : Int) (c : C5) : Prop where
  pp : Pp p
  le : p ≤ 31
  d1 : Dg p c.a1
  d2 : Dg p c.a2
  d3 : Dg p c.a3
  d4 : Dg p c.a4
  d6 : Dg p c.a6
  disc : ¬Mo p c.disc 0
section
variable {p : Int} {c : C5}
theorem Okc.p0 (h : Okc p c) : 0 < p := by
  have := h.pp.1
  omega
theorem Okc.p1 (h : Okc p c) : 1 < p := h.pp.1
theorem unit_gcd (hp : Pp p) {z : Int} (h : ¬Mo p z 0) : Nat.gcd z.natAbs p.natAbs = 1 := (un_iff (by have := hp.1; omega)).mp (hp.2 z h)
theorem diff_unit (hp : Pp p) {x z : Int} (hx : Dg p x) (hz : Dg p z) (h : x ≠ z) : ¬Mo p (z - x) 0 := fun g => h ((sub_zero_iff hz hx).mp g).symm
theorem opp_mod {x y w : Int} (hp : 0 < p) (hw : Dg p w) : w = (-y - c.a1 * x - c.a3) % p ↔ (y + w + c.a1 * x + c.a3) % p = 0 := by
  constructor
  · intro e
    rw [e]
    have : Mo p (y + (-y - c.a1 * x - c.a3) % p + c.a1 * x + c.a3) (y + (-y - c.a1 * x - c.a3) + c.a1 * x + c.a3) := ((Mo.rfl'.add Mo.mod).add Mo.rfl').add Mo.rfl'
    refine Eq.trans this ?_
    rw [show y + (-y - c.a1 * x - c.a3) + c.a1 * x + c.a3 = 0 by omega]
    exact Int.zero_emod p
  · intro e
    refine hw.eq (Dg.mod hp) (Mo.trans ?_ Mo.mod.symm)
    have h1 : Mo p (y + w + c.a1 * x + c.a3) 0 := mod0.mp e
    have h2 := h1.sub (Mo.rfl' (a := y + c.a1 * x + c.a3))
    refine (Mo.of_eq ?_).trans (h2.trans (Mo.of_eq ?_))
    · omega
    · omega
theorem same_y (hp : Pp p) {x y w : Int} (ha : PtK p c (some (x, y))) (hb : PtK p c (some (x, w))) (h : ¬(w = (-y - c.a1 * x - c.a3) % p)) : w = y := by
  have hp0 : 0 < p := by have := hp.1; omega
  rcases same_x hp.nz ha.2.2 hb.2.2 with g | g
  · exact q_dg hb.2.1 ha.2.1 g
  · exact absurd ((opp_iff hp0 ha hb).mpr ⟨rfl, g⟩).2 h
theorem psum_diff {x y z w r : Int} (h : x ≠ z) (hr : Inv p (z - x) r) : psum p c (some (x, y)) (some (z, w)) = some (far p c ((w - y) * r) x y z) := by
  show (if z = x ∧ w = (-y - c.a1 * x - c.a3) % p then none else some (far p c (slo p c x y z w) x y z)) = _
  rw [if_neg (fun g => h g.1.symm)]
  unfold slo
  rw [if_neg h, iv_eq hr]
theorem psum_dbl {x y r : Int} (h : ¬(y = (-y - c.a1 * x - c.a3) % p)) (hr : Inv p (2 * y + c.a1 * x + c.a3) r) : psum p c (some (x, y)) (some (x, y)) = some (far p c ((3 * x * x + 2 * c.a2 * x + c.a4 - c.a1 * y) * r) x y x) := by
  show (if x = x ∧ y = (-y - c.a1 * x - c.a3) % p then none else some (far p c (slo p c x y x y) x y x)) = _
  rw [if_neg (fun g => h g.2)]
  unfold slo
  rw [if_pos rfl, iv_eq hr]
theorem psum_opp {x y z w : Int} (h1 : z = x) (h2 : w = (-y - c.a1 * x - c.a3) % p) : psum p c (some (x, y)) (some (z, w)) = none := if_pos ⟨h1, h2⟩
theorem dbl_unit {x y : Int} (hp : 0 < p) (hy : Dg p y) (h : ¬(y = (-y - c.a1 * x - c.a3) % p)) : ¬Mo p (2 * y + c.a1 * x + c.a3) 0 := fun g => h ((opp_mod hp hy).mpr (by
  rw [show y + y + c.a1 * x + c.a3 = 2 * y + c.a1 * x + c.a3 by omega]
  exact mod0.mpr g))
theorem far_eq {k x y z : Int} : (far p c k x y z).1 = (k * (k + c.a1) - c.a2 - x - z) % p ∧ ∀ X, X = (far p c k x y z).1 → (far p c k x y z).2 = (k * (x - X) - y - c.a1 * X - c.a3) % p := by
  refine ⟨?_, ?_⟩
  · show (k * k + c.a1 * k - c.a2 - x - z) % p = _
    rw [Int.mul_add, Int.mul_comm c.a1 k]
  · intro X e
    have e' : (k * k + c.a1 * k - c.a2 - x - z) % p = X := e.symm
    show (-(k * ((k * k + c.a1 * k - c.a2 - x - z) % p - x) + y) - c.a1 * ((k * k + c.a1 * k - c.a2 - x - z) % p) - c.a3) % p = _
    rw [e', show k * (x - X) = -(k * (X - x)) by rw [← Int.mul_neg, Int.neg_sub]]
    congr 1
    omega
theorem far_law {k x y z X : Int} (hX : (k % p * (k % p) + c.a1 * (k % p) - c.a2 - x - z) % p = X) : far p c k x y z = (X, (-((y + k % p * (X - x)) % p) - c.a1 * X - c.a3) % p) := by
  have m : Mo p (k % p) k := Mo.mod
  have e : (k * k + c.a1 * k - c.a2 - x - z) % p = X := by
    rw [← hX]
    exact (((((m.mul m).add (Mo.rfl'.mul m)).sub Mo.rfl').sub Mo.rfl').sub Mo.rfl').symm
  have e2 : (-(k * (X - x) + y) - c.a1 * X - c.a3) % p = (-((y + k % p * (X - x)) % p) - c.a1 * X - c.a3) % p := by
    refine Mo.sub (Mo.sub (Mo.neg ?_) Mo.rfl') Mo.rfl'
    refine Mo.trans ?_ Mo.mod.symm
    rw [Int.add_comm]
    exact Mo.rfl'.add (m.symm.mul Mo.rfl')
  show ((k * k + c.a1 * k - c.a2 - x - z) % p, (-(k * ((k * k + c.a1 * k - c.a2 - x - z) % p - x) + y) - c.a1 * ((k * k + c.a1 * k - c.a2 - x - z) % p) - c.a3) % p) = _
  rw [e, e2]
theorem pneg_some {x y : Int} : pneg p c (some (x, y)) = some (x, (-y - c.a1 * x - c.a3) % p) := rfl
end
end K41
set_option Elab.async false
set_option linter.all false
set_option maxRecDepth 100000
set_option maxHeartbeats 4000000
namespace K41
open PySem PySem.Spec PyProof.Rows L2 Gd QM K45M EcZ
def topS (i : Nat) : Stmt := PySem.Challenge.pw_pointsum_k41_whole_groups_over_p.main.body.getD i (.Pass ⟨0, 0, 0, 0⟩)
/-- what the walk asks of the module's names -/
structure Tx (K : PySem.W.Frag) (mg : Str → Option Value) : Prop where
  int : mg "int" = none
  len : mg "len" = none
  tuple : mg "tuple" = none
  range : mg "range" = none
  divmod : mg "divmod" = none
  min : mg "min" = none
  repr : mg "repr" = none
theorem fdw {i j : Int} {b : Nat} (h : 0 < j) (hb : B b j) (h0 : 0 < b) (h9 : b ≤ 9000) : CDivW i j := wide_div h hb h0 h9
theorem iteN {c A B : Prop} [Decidable c] (h : ¬ c) (b : B) : if c then A else B := by
  rw [if_neg h]
  exact b
theorem iteY {c A B : Prop} [Decidable c] (h : c) (b : A) : if c then A else B := by
  rw [if_pos h]
  exact b
theorem divp {i j : Int} {b : Nat} (h : 0 < j) (hi : B b i) (hb : b ≤ 3000) : CDivP i j := by
  refine divp_ok h ?_
  have := PyProof.Rows.intBits_le hi
  omega
theorem B.of_le {x n : Int} {b : Nat} (hn : B b n) (h : (x.natAbs : Int) ≤ n) : B b x := by
  unfold Gd.B at *
  omega
section
variable {P : Program} {w : World} {K : PySem.W.Frag} {mg : Str → Option Value} {base : Heap}
/-! ### inverses -/
def sp_inverse_mod (K : PySem.W.Frag) : Sp := fun vs H Q _ => ∃ a m : Int, vs = [.int a, .int m] ∧ 1 < m ∧ B 400 m ∧ Nat.gcd a.natAbs m.natAbs = 1 ∧ ∀ H' r, Same H H' → Inv m a r → Q (.int r) H'
abbrev s_inverse_mod : Stmt := topS 1
theorem sc_inverse_mod : FnScope ["a", "m", "high", "low", "above", "below", "many", "rest"] ["a", "m"] (defScope s_inverse_mod) := ⟨rfl, rfl, rfl, by decide +kernel, rfl, by decide +kernel, by decide +kernel⟩
theorem k_inverse_mod (T : Tx K mg) (D : Df K mg "inverse_mod" s_inverse_mod ["a", "m"])  : Kl P w K mg base 1 "inverse_mod" (sp_inverse_mod K) := by
  have nd := sc_inverse_mod.nd
  refine Kl.by_body D sc_inverse_mod (fun vs H Q E h => ?_) (fun f cdv A outer s H vs Q E hr h => ?_)
  · obtain ⟨_, _, rfl, _⟩ := h
    rfl
  · obtain ⟨a, m, rfl, hm, hB, hg, q⟩ := h
    have hu1 := hu_of hr
    refine ⟨_, (pss_cons (ps_par (i := 2) (j := 3) (by rfl) nd rfl rfl (by decide) rfl rfl (pa_cons (pv 1) (pa_cons (pe_op op_mod (pv 0) (pv 1)) pa_nil)) (by rfl))
      (pss_cons (ps_asg (pe_tup (pa_cons pe_int (pa_cons pe_int pa_nil))) (pg_tup rfl (pgs_cons (pg_name (i := 4) nd rfl (by first | exact Or.inl rfl | exact Or.inr rfl)) (pgs_cons (pg_name (i := 5) nd rfl (by first | exact Or.inl rfl | exact Or.inr rfl)) pgs_nil))))
      (pss_cons (ps_while PassesOwn.never (pt_cmpR op_ne (pv 3) pe_int (nomark _)) (pss_cons (ps_asg (pe_callB call_divmodW (by rfl) T.divmod (by decide +kernel) (pa_cons (pv 2) (pa_cons (pv 3) pa_nil))) (pg_tup rfl (pgs_cons (pg_name (i := 6) nd rfl (by first | exact Or.inl rfl | exact Or.inr rfl)) (pgs_cons (pg_name (i := 7) nd rfl (by first | exact Or.inl rfl | exact Or.inr rfl)) pgs_nil))))
      (pss_cons (ps_par (i := 2) (j := 3) (by rfl) nd rfl rfl (by decide) rfl rfl (pa_cons (pv 3) (pa_cons (pv 7) pa_nil)) (by rfl))
      (pss_one (ps_par (i := 4) (j := 5) (by rfl) nd rfl rfl (by decide) rfl rfl (pa_cons (pv 5) (pa_cons (pe_op op_sub (pv 4) (pe_op op_mulW (pv 6) (pv 5))) pa_nil)) (by rfl))))))
      (pss_one (ps_ret (pe_op op_mod (pv 4) (pv 1))))))), ?_⟩
    refine ⟨_, rfl, _, rfl, _, rfl, _, _, rfl, rfl, (by show (0 : Int) < m; omega), _, _, rfl, ?_⟩
    refine ⟨(by show 2 ≤ sizeLine; decide), fun t0 nt0 => ?_⟩
    have s1 := Same.new (H := H) (p := t0) (o := .tup [.int 0, .int 1]) nt0
    have g1 : upd H t0 (.tup [.int 0, .int 1]) t0 = some (.tup [.int 0, .int 1]) := upd_same
    generalize upd H t0 (.tup [.int 0, .int 1]) = H1 at s1 g1 ⊢
    refine ⟨t0, _, rfl, tup_of g1, rfl, _, _, rfl, _, _, rfl, rfl, ?_⟩
    first | refine sigN [some (.int (a)), some (.int (m)), some (.int (m)), some (.int (a % m)), some (.int (0)), some (.int (1)), none, none] (by rfl) ?_ | refine sig [some (.int (a)), some (.int (m)), some (.int (m)), some (.int (a % m)), some (.int (0)), some (.int (1)), none, none] (by rfl) ?_
    refine while_by (fun σ H2 => Same H1 H2 ∧ ∃ (high low above below : Int) (v1 v2 : Option V), σ = [some (.int a), some (.int m), some (.int high), some (.int low), some (.int above), some (.int below), v1, v2] ∧ Eu m a high low above below)
      (fun σ _ => match σ with | [_, _, _, some (.int low), _, _, _, _] => low.toNat | _ => 0) ⟨Same.refl _, m, a % m, 0, 1, none, none, rfl, Eu.start (by omega)⟩ ?_ ?_
    · rintro σ H2 ⟨s2, high, low, above, below, v1, v2, rfl, eu⟩
      refine ⟨_, rfl, rfl, _, rfl, ?_⟩
      rw [dec_int]
      by_cases hl : low = 0
      · refine iteN (by simp [hl]) ?_
        subst hl
        exact ⟨_, rfl, _, rfl, _, _, rfl, rfl, (by show (0 : Int) < m; omega), q _ _ (s1.trans s2) (eu.inv (by omega) hg)⟩
      · refine iteY (by simpa using hl) ?_
        have lp : 0 < low := by
          have := eu.l0
          omega
        have hB2 : B 400 high := B.of_le hB (by have := eu.hn; have := eu.h0; omega)
        obtain ⟨z1, z2⟩ := eu.small hl
        refine ⟨_, rfl, _, rfl, _, _, rfl, divp lp hB2 (by decide), fun t nt => ?_⟩
        have s3 := Same.new (H := H2) (p := t) (o := .tup [.int (high / low), .int (high % low)]) nt
        have g3 : upd H2 t (.tup [.int (high / low), .int (high % low)]) t = some (.tup [.int (high / low), .int (high % low)]) := upd_same
        generalize upd H2 t (.tup [.int (high / low), .int (high % low)]) = H3 at s3 g3 ⊢
        refine ⟨t, _, rfl, tup_of g3, rfl, _, _, rfl, _, _, rfl, rfl, ?_⟩
        first | refine sigN [some (.int (a)), some (.int (m)), some (.int (high)), some (.int (low)), some (.int (above)), some (.int (below)), some (.int (high / low)), some (.int (high % low))] (by rfl) ?_ | refine sig [some (.int (a)), some (.int (m)), some (.int (high)), some (.int (low)), some (.int (above)), some (.int (below)), some (.int (high / low)), some (.int (high % low))] (by rfl) ?_
        refine ⟨_, rfl, _, rfl, _, _, rfl, ?_⟩
        first | refine sigN [some (.int (a)), some (.int (m)), some (.int (low)), some (.int (high % low)), some (.int (above)), some (.int (below)), some (.int (high / low)), some (.int (high % low))] (by rfl) ?_ | refine sig [some (.int (a)), some (.int (m)), some (.int (low)), some (.int (high % low)), some (.int (above)), some (.int (below)), some (.int (high / low)), some (.int (high % low))] (by rfl) ?_
        have qB : B 400 (high / low) := by
          refine B.of_le hB ?_
          have hp := eu.h0
          have h1 := Int.ediv_nonneg (show 0 ≤ high by omega) (show 0 ≤ low by omega)
          have h2 := Int.ediv_le_self low (show 0 ≤ high by omega)
          have := eu.hn
          generalize high / low = qq at h1 h2 ⊢
          omega
        refine ⟨_, rfl, _, rfl, _, rfl, _, rfl, _, _, rfl, rfl, qB.mulW (B.of_le hB z2) (by decide), _, _, rfl, rfl, _, _, rfl, ?_⟩
        have st := eu.step hl
        refine ⟨⟨s2.trans s3, low, high % low, below, above - high / low * below, _, _, rfl, st.1⟩, ?_⟩
        show (high % low).toNat < low.toNat
        have := st.2
        have := st.1.l0
        omega
    · rintro σ H2 Q1 Q2 i ⟨v, hv, e, b, e2, z⟩
      exact ⟨v, hv, e, b, e2, i _ _ z⟩
def sp_law_inverse (K : PySem.W.Frag) : Sp := fun vs H Q _ => ∃ a p : Int, vs = [.int a, .int p] ∧ 1 < p ∧ B 300 p ∧ Nat.gcd a.natAbs p.natAbs = 1 ∧ ∀ H' r, Same H H' → Inv p a r → Q (.int r) H'
abbrev s__law_inverse : Stmt := topS 12
theorem sc__law_inverse : FnScope ["a", "p", "left", "right", "low", "high", "part"] ["a", "p"] (defScope s__law_inverse) := ⟨rfl, rfl, rfl, by decide +kernel, rfl, by decide +kernel, by decide +kernel⟩
theorem k_law_inverse (T : Tx K mg) (D : Df K mg "_law_inverse" s__law_inverse ["a", "p"])  : Kl P w K mg base 1 "_law_inverse" (sp_law_inverse K) := by
  have nd := sc__law_inverse.nd
  refine Kl.by_body D sc__law_inverse (fun vs H Q E h => ?_) (fun f cdv A outer s H vs Q E hr h => ?_)
  · obtain ⟨_, _, rfl, _⟩ := h
    rfl
  · obtain ⟨a, p, rfl, hp, hB, hg, q⟩ := h
    have hu1 := hu_of hr
    refine ⟨_, (pss_cons (ps_asg (pe_tup (pa_cons (pv 1) (pa_cons (pe_op op_mod (pe_callTy call_intI (by rfl) T.int (by decide +kernel) (pa_cons (pv 0) pa_nil)) (pv 1)) (pa_cons pe_int (pa_cons pe_int pa_nil))))) (pg_tup rfl (pgs_cons (pg_name (i := 2) nd rfl (by first | exact Or.inl rfl | exact Or.inr rfl)) (pgs_cons (pg_name (i := 3) nd rfl (by first | exact Or.inl rfl | exact Or.inr rfl)) (pgs_cons (pg_name (i := 4) nd rfl (by first | exact Or.inl rfl | exact Or.inr rfl)) (pgs_cons (pg_name (i := 5) nd rfl (by first | exact Or.inl rfl | exact Or.inr rfl)) pgs_nil))))))
      (pss_cons (ps_while PassesOwn.never (pt_cmpR op_gt (pv 3) pe_int (nomark _)) (pss_cons (ps_set (i := 6) nd rfl (by first | exact Or.inl rfl | exact Or.inr rfl) (pe_op op_fdivW (pv 2) (pv 3)))
      (pss_cons (ps_par (i := 2) (j := 3) (by rfl) nd rfl rfl (by decide) rfl rfl (pa_cons (pv 3) (pa_cons (pe_op op_sub (pv 2) (pe_op op_mulW (pv 6) (pv 3))) pa_nil)) (by rfl))
      (pss_one (ps_par (i := 4) (j := 5) (by rfl) nd rfl rfl (by decide) rfl rfl (pa_cons (pv 5) (pa_cons (pe_op op_sub (pv 4) (pe_op op_mulW (pv 6) (pv 5))) pa_nil)) (by rfl))))))
      (pss_one (ps_ret (pe_op op_mod (pe_callTy call_intI (by rfl) T.int (by decide +kernel) (pa_cons (pv 5) pa_nil)) (pv 1)))))), ?_⟩
    have hp0 : 0 < p := by omega
    refine ⟨_, rfl, _, rfl, _, rfl, _, rfl, _, _, rfl, rfl, hp0, (by show 4 ≤ sizeLine; decide), fun t0 nt0 => ?_⟩
    have s1 := Same.new (H := H) (p := t0) (o := .tup [.int p, .int (a % p), .int 0, .int 1]) nt0
    have g1 : upd H t0 (.tup [.int p, .int (a % p), .int 0, .int 1]) t0 = some (.tup [.int p, .int (a % p), .int 0, .int 1]) := upd_same
    generalize upd H t0 (.tup [.int p, .int (a % p), .int 0, .int 1]) = H1 at s1 g1 ⊢
    refine ⟨t0, _, rfl, tup_of g1, rfl, _, _, rfl, _, _, rfl, _, _, rfl, _, _, rfl, rfl, ?_⟩
    first | refine sigN [some (.int (a)), some (.int (p)), some (.int (p)), some (.int (a % p)), some (.int (0)), some (.int (1)), none] (by rfl) ?_ | refine sig [some (.int (a)), some (.int (p)), some (.int (p)), some (.int (a % p)), some (.int (0)), some (.int (1)), none] (by rfl) ?_
    have one : 0 < a % p := by
      have h1 := Int.emod_nonneg a (show p ≠ 0 by omega)
      rcases Int.lt_or_eq_of_le h1 with z | z
      · exact z
      · exfalso
        have h2 : p ∣ a := Int.dvd_of_emod_eq_zero z.symm
        have h3 : p.natAbs ∣ a.natAbs := Int.natAbs_dvd_natAbs.mpr h2
        rw [Nat.gcd_eq_right h3] at hg
        omega
    refine while_by (fun σ H2 => H2 = H1 ∧ ∃ (high low above below : Int) (v1 : Option V), σ = [some (.int a), some (.int p), some (.int high), some (.int low), some (.int above), some (.int below), v1] ∧ Eu p a high low above below ∧ 0 < low)
      (fun σ _ => match σ with | [_, _, _, some (.int low), _, _, _] => low.toNat | _ => 0) ⟨rfl, p, a % p, 0, 1, none, rfl, Eu.start hp0, one⟩ ?_ ?_
    · rintro σ H2 ⟨rfl, high, low, above, below, v1, rfl, eu, l0⟩
      refine ⟨_, rfl, _, _, rfl, rfl, _, rfl, ?_⟩
      by_cases hl : 1 < low
      · refine iteY (decide_eq_true hl) ?_
        have hB1 : B 300 low := B.of_le hB (by have := eu.lt; have := eu.hn; omega)
        have hB2 : B 300 high := B.of_le hB (by have := eu.hn; have := eu.h0; omega)
        obtain ⟨z1, z2⟩ := eu.small (by omega)
        have qB : B 300 (high / low) := by
          refine B.of_le hB ?_
          have hp := eu.h0
          have h1 := Int.ediv_nonneg (show 0 ≤ high by omega) (show 0 ≤ low by omega)
          have h2 := Int.ediv_le_self low (show 0 ≤ high by omega)
          have := eu.hn
          generalize high / low = qq at h1 h2 ⊢
          omega
        have em : high - high / low * low = high % low := by
          rw [Int.emod_def, Int.mul_comm]
        refine ⟨_, rfl, _, rfl, _, _, rfl, rfl, fdw l0 hB1 (by decide) (by decide), ?_⟩
        first | refine sigN [some (.int (a)), some (.int (p)), some (.int (high)), some (.int (low)), some (.int (above)), some (.int (below)), some (.int (high / low))] (by rfl) ?_ | refine sig [some (.int (a)), some (.int (p)), some (.int (high)), some (.int (low)), some (.int (above)), some (.int (below)), some (.int (high / low))] (by rfl) ?_
        refine ⟨_, rfl, _, rfl, _, rfl, _, rfl, _, _, rfl, rfl, qB.mulW hB1 (by decide), _, _, rfl, rfl, _, _, rfl, ?_⟩
        refine ⟨_, rfl, _, rfl, _, rfl, _, rfl, _, _, rfl, rfl, qB.mulW (B.of_le hB z2) (by decide), _, _, rfl, rfl, _, _, rfl, ?_⟩
        have st := eu.step (by omega)
        refine ⟨⟨rfl, low, high % low, below, above - high / low * below, _, by rw [← em]; rfl, st.1, ?_⟩, ?_⟩
        · have := eu.rest hg hl
          have := st.1.l0
          omega
        · show (high - high / low * low).toNat < low.toNat
          rw [em]
          have := st.2
          have := st.1.l0
          omega
      · refine iteN (by simpa using hl) ?_
        obtain rfl : low = 1 := by omega
        exact ⟨_, rfl, _, rfl, _, rfl, _, _, rfl, rfl, hp0, q _ _ s1 (eu.inv1 hp0)⟩
    · rintro σ H2 Q1 Q2 i ⟨v, hv, x, y, e1, e2, b, e3, z⟩
      exact ⟨v, hv, x, y, e1, e2, b, e3, i _ _ z⟩
end
end K41
set_option Elab.async false
set_option linter.all false
set_option maxRecDepth 100000
set_option maxHeartbeats 4000000
namespace K41
open PySem PySem.Spec PyProof.Rows L2 Gd QM K45M EcZ
section
variable {P : Program} {w : World} {K : PySem.W.Frag} {mg : Str → Option Value} {base : Heap}
/-! ### one draw -/
def sp_law_draw (K : PySem.W.Frag) : Sp := fun vs H Q _ => ∃ (m cl : Addr) (b : Int) (n : Nat), vs = [.ref m, .int b] ∧ 0 < b ∧ b < 4294967296 ∧ n ≤ 1000000 ∧ MAt H m cl n ∧ ∀ H' r, But m H H' → MAt H' m cl (n + 1) → 0 ≤ r → r < b → Q (.int r) H'
abbrev s__law_draw : Stmt := topS 8
theorem sc__law_draw : FnScope ["m", "below", "found", "spot", "cells", "extra", "cell", "blend"] ["m", "below"] (defScope s__law_draw) := ⟨rfl, rfl, rfl, by decide +kernel, rfl, by decide +kernel, by decide +kernel⟩
theorem k_law_draw (T : Tx K mg) (D : Df K mg "_law_draw" s__law_draw ["m", "below"])  : Kl P w K mg base 1 "_law_draw" (sp_law_draw K) := by
  have nd := sc__law_draw.nd
  refine Kl.by_body D sc__law_draw (fun vs H Q E h => ?_) (fun f cdv A outer s H vs Q E hr h => ?_)
  · obtain ⟨_, _, _, _, rfl, _⟩ := h
    rfl
  · obtain ⟨m, c, b, n, rfl, hb0, hb1, hn, ⟨L, s0, cs, k, hm, hk, hc, hl⟩, q⟩ := h
    have hu1 := hu_of hr
    refine ⟨_, (pss_cons (ps_if (pt_cmpR op_gt (pe_dget hu1 (pv 0) pe_str (fun _ _ => rfl)) pe_int (nomark _)) (pss_cons (ps_set (i := 2) nd rfl (by first | exact Or.inl rfl | exact Or.inr rfl) (pe_op op_mod (pe_callTy call_intI (by rfl) T.int (by decide +kernel) (pa_cons (pe_dget hu1 (pv 0) pe_str (fun _ _ => rfl)) pa_nil)) (pv 1)))
      (pss_cons (ps_dput hu1 (pv 0) pe_str (pe_op op_fdivAny (pe_dget hu1 (pv 0) pe_str (fun _ _ => rfl)) (pv 1)) rfl)
      (pss_one (ps_ret (pv 2))))) pss_nil)
      (pss_cons (ps_set (i := 3) nd rfl (by first | exact Or.inl rfl | exact Or.inr rfl) (pe_dget hu1 (pv 0) pe_str (fun _ _ => rfl)))
      (pss_cons (ps_dput hu1 (pv 0) pe_str (pe_op op_add (pv 3) pe_int) rfl)
      (pss_cons (ps_par (i := 4) (j := 5) (by rfl) nd rfl rfl (by decide) rfl rfl (pa_cons (pe_dget hu1 (pv 0) pe_str (fun _ _ => rfl)) (pa_cons (pe_op op_add (pe_dget hu1 (pv 0) pe_str (fun _ _ => rfl)) (pe_op op_mulW (pe_op op_mul pe_int (pv 3)) (pv 3))) pa_nil)) (by rfl))
      (pss_cons (ps_set (i := 6) nd rfl (by first | exact Or.inl rfl | exact Or.inr rfl) (pe_ix ix_list (pv 4) (pe_op op_mod (pe_callTy call_intI (by rfl) T.int (by decide +kernel) (pa_cons (pv 3) pa_nil)) (pe_callB call_len_seq (by rfl) T.len (by decide +kernel) (pa_cons (pv 4) pa_nil))) (fun _ _ => rfl)))
      (pss_cons (ps_set (i := 7) nd rfl (by first | exact Or.inl rfl | exact Or.inr rfl) (pe_op op_mod (pe_callTy call_intI (by rfl) T.int (by decide +kernel) (pa_cons (pe_op op_add (pe_op op_mul (pv 6) (pe_op op_add (pe_op op_mul pe_int (pv 3)) pe_int)) (pv 5)) pa_nil)) pe_int))
      (pss_cons (ps_set (i := 7) nd rfl (by first | exact Or.inl rfl | exact Or.inr rfl) (pe_op op_mod (pe_callTy call_intI (by rfl) T.int (by decide +kernel) (pa_cons (pe_op op_add (pe_op op_add (pe_op op_mul (pv 7) (pv 7)) (pe_op op_mul pe_int (pv 3))) (pe_dget hu1 (pv 0) pe_str (fun _ _ => rfl))) pa_nil)) pe_int))
      (pss_one (ps_ret (pe_op op_mod (pe_op op_fdiv (pe_op op_mod (pe_callTy call_intI (by rfl) T.int (by decide +kernel) (pa_cons (pe_op op_add (pe_op op_mul (pv 7) pe_int) (pv 3)) pa_nil)) pe_int) pe_int) (pv 1))))))))))), ?_⟩
    have gL : DGet H m (.str "left") (some (.int L)) := m4_left (L := L) ▸ DGet.k (k := Sum.inr "left") hm
    have ncm : c ≠ m := ne_of hc hm (by intro z; cases z)
    refine ⟨_, rfl, m, _, rfl, gL, _, _, rfl, rfl, _, rfl, ite2 (fun e => ?_) (fun e => ?_)⟩
    · refine ⟨_, rfl, m, _, rfl, gL, _, rfl, _, rfl, _, _, rfl, rfl, hb0, ?_⟩
      refine ⟨_, rfl, m, _, rfl, gL, _, rfl, _, _, rfl, rfl, div_any (m := 33) (by omega) (by unfold B; omega) (by decide), _, rfl, m, _, rfl, DPut.k (k := Sum.inr "left") hm (small1000 (by show 4 ≤ 1000; decide)), ?_⟩
      rw [m4_putL]
      refine ⟨_, rfl, ?_⟩
      refine q _ _ But.upd ⟨_, s0, cs, k, upd_same, by omega, ?_, hl⟩ (Int.emod_nonneg _ (by omega)) (Int.emod_lt_of_pos _ hb0)
      rw [upd_ne ncm]
      exact hc
    · have gS : DGet H m (.str "spot") (some (.int k)) := m4_spot (n := k) ▸ DGet.k (k := Sum.inr "spot") hm
      refine ⟨_, rfl, m, _, rfl, gS, ?_⟩
      refine ⟨_, rfl, _, _, rfl, rfl, _, rfl, m, _, rfl, DPut.k (k := Sum.inr "spot") hm (small1000 (by show 4 ≤ 1000; decide)), ?_⟩
      rw [m4_putS]
      have hm2 : (upd H m (HO.dK (mk4 L s0 c (k + 1)))) m = some (.dK (mk4 L s0 c (k + 1))) := upd_same
      have hc2 : (upd H m (HO.dK (mk4 L s0 c (k + 1)))) c = some (.lst (cs.map V.int)) := by
        rw [upd_ne ncm]
        exact hc
      have bt : But m H (upd H m (HO.dK (mk4 L s0 c (k + 1)))) := But.upd
      generalize upd H m (HO.dK (mk4 L s0 c (k + 1))) = H2 at hm2 hc2 bt ⊢
      have gC : DGet H2 m (.str "cells") (some (.ref c)) := m4_cells (c := c) ▸ DGet.k (k := Sum.inr "cells") hm2
      have gE : DGet H2 m (.str "seed") (some (.int s0)) := m4_seed (s := s0) ▸ DGet.k (k := Sum.inr "seed") hm2
      have bk : B 20 (k : Int) := by
        unfold B
        omega
      refine ⟨_, rfl, m, _, rfl, gC, _, rfl, m, _, rfl, gE, _, rfl, _, _, rfl, rfl, (Or.inl ⟨by decide, by decide⟩), _, rfl, _, _, rfl, rfl, ((B.lit (n := 20) (by decide)).mul bk).mulW bk (by decide), _, _, rfl, rfl, _, _, rfl, ?_⟩
      have hlz : (0 : Int) < ((cs.map V.int).length : Int) := by
        rw [List.length_map]
        omega
      have hix : ∃ z : Int, atI (cs.map V.int) ((k : Int) % ((cs.map V.int).length : Int)) = some (.int z) := by
        rw [List.length_map]
        have h1 : k % cs.length < cs.length := Nat.mod_lt _ hl
        refine ⟨cs[k % cs.length], ?_⟩
        rw [← Int.natCast_emod]
        refine atI_nat ?_
        rw [List.getElem?_map, List.getElem?_eq_getElem h1]
        rfl
      obtain ⟨z, hz⟩ := hix
      refine ⟨_, rfl, _, rfl, _, rfl, _, rfl, c, _, rfl, .inl (.inl (.inl hc2)), _, _, rfl, rfl, hlz, c, _, _, _, rfl, rfl, .inl (.inl hc2), hz, ?_⟩
      have bk2 : B 30 (2 * (k : Int) + 3) := by
        unfold B
        omega
      refine ⟨_, rfl, _, rfl, _, _, rfl, rfl, (Or.inl ⟨by decide, by decide⟩), _, _, rfl, rfl, _, _, rfl, rfl, bk2.mulR (by decide), _, rfl, _, _, rfl, rfl, _, rfl, _, _, rfl, rfl, (by show (0 : Int) < 2147483647; decide), ?_⟩
      have be : ∀ y : Int, B 32 (y % 2147483647) := fun y => by
        have h1 := Int.emod_nonneg y (show (2147483647 : Int) ≠ 0 by decide)
        have h2 := Int.emod_lt_of_pos y (show (0 : Int) < 2147483647 by decide)
        unfold B
        omega
      refine ⟨_, rfl, _, rfl, _, _, rfl, rfl, (be _).mulR (by decide), _, rfl, _, _, rfl, rfl, (Or.inl ⟨by decide, by decide⟩), _, _, rfl, rfl, _, rfl, m, _, rfl, gE, _, _, rfl, rfl, _, rfl, _, _, rfl, rfl, (by show (0 : Int) < 2147483629; decide), ?_⟩
      refine ⟨_, rfl, _, _, rfl, rfl, (Or.inr ⟨by decide, by decide⟩), _, rfl, _, _, rfl, rfl, _, rfl, _, _, rfl, rfl, (by show (0 : Int) < 2147483647; decide), _, _, rfl, rfl, ⟨by decide, by decide⟩, _, rfl, _, _, rfl, rfl, hb0, ?_⟩
      exact q _ _ bt ⟨L, s0, cs, k + 1, hm2, by omega, hc2, hl⟩ (Int.emod_nonneg _ (by omega)) (Int.emod_lt_of_pos _ hb0)
/-! ### one of some -/
def sp_law_of (K : PySem.W.Frag) : Sp := fun vs H Q _ => ∃ (m cl a : Addr) (xs : List V) (n : Nat), vs = [.ref m, .ref a] ∧ SqL K H a xs ∧ 0 < xs.length ∧ xs.length ≤ 1000 ∧ n ≤ 1000000 ∧ MAt H m cl n ∧ ∀ H' x, But m H H' → MAt H' m cl (n + 1) → x ∈ xs → Q x H'
abbrev s__law_of : Stmt := topS 9
theorem sc__law_of : FnScope ["m", "some"] ["m", "some"] (defScope s__law_of) := ⟨rfl, rfl, rfl, by decide +kernel, rfl, by decide +kernel, by decide +kernel⟩
theorem k_law_of (T : Tx K mg) (D : Df K mg "_law_of" s__law_of ["m", "some"]) (c_law_draw : Kl P w K mg base 1 "_law_draw" (sp_law_draw K)) : Kl P w K mg base 2 "_law_of" (sp_law_of K) := by
  have nd := sc__law_of.nd
  refine Kl.by_body D sc__law_of (fun vs H Q E h => ?_) (fun f cdv A outer s H vs Q E hr h => ?_)
  · obtain ⟨_, _, _, _, _, rfl, _⟩ := h
    rfl
  · obtain ⟨m, cl, a, xs, n, rfl, hx, h0, h1, hn, hM, q⟩ := h
    have hu1 := hu_of hr
    refine ⟨_, (pss_one (ps_ret (pe_ix ix_list (pv 1) (pe_k c_law_draw  hr (by decide) (by rfl) (pa_cons (pv 0) (pa_cons (pe_callB call_len_seq (by rfl) T.len (by decide +kernel) (pa_cons (pv 1) pa_nil)) pa_nil))) (fun _ _ => rfl)))), ?_⟩
    refine ⟨.ref a, rfl, _, rfl, .ref a, rfl, a, xs, rfl, .inl hx, m, cl, _, n, rfl, by omega, by omega, hn, hM, fun H1 r b1 m1 r0 r1 => ?_⟩
    have hr1 : r.toNat < xs.length := by omega
    refine ⟨a, xs, r, xs[r.toNat], rfl, rfl, b1.seqL hM hx, ?_, q _ _ b1 m1 (List.getElem_mem hr1)⟩
    have key : atI xs ((r.toNat : Nat) : Int) = some xs[r.toNat] := atI_nat (List.getElem?_eq_getElem hr1)
    rw [show ((r.toNat : Nat) : Int) = r by omega] at key
    exact key
/-! ### between -/
def sp_law_between (K : PySem.W.Frag) : Sp := fun vs H Q _ => ∃ (m cl : Addr) (z : Int) (n : Nat), vs = [.ref m, .int z] ∧ 0 ≤ z ∧ z ≤ 2000000000 ∧ n ≤ 1000000 ∧ MAt H m cl n ∧ ∀ H' r, But m H H' → MAt H' m cl (n + 1) → -z ≤ r → r ≤ z → Q (.int r) H'
abbrev s__law_between : Stmt := topS 10
theorem sc__law_between : FnScope ["m", "size"] ["m", "size"] (defScope s__law_between) := ⟨rfl, rfl, rfl, by decide +kernel, rfl, by decide +kernel, by decide +kernel⟩
theorem k_law_between (T : Tx K mg) (D : Df K mg "_law_between" s__law_between ["m", "size"]) (c_law_draw : Kl P w K mg base 1 "_law_draw" (sp_law_draw K)) : Kl P w K mg base 2 "_law_between" (sp_law_between K) := by
  have nd := sc__law_between.nd
  refine Kl.by_body D sc__law_between (fun vs H Q E h => ?_) (fun f cdv A outer s H vs Q E hr h => ?_)
  · obtain ⟨_, _, _, _, rfl, _⟩ := h
    rfl
  · obtain ⟨m, cl, z, n, rfl, h0, h1, hn, hM, q⟩ := h
    have hu1 := hu_of hr
    refine ⟨_, (pss_one (ps_ret (pe_op op_sub (pe_k c_law_draw  hr (by decide) (by rfl) (pa_cons (pv 0) (pa_cons (pe_op op_add (pe_op op_mul pe_int (pv 1)) pe_int) pa_nil))) (pv 1)))), ?_⟩
    refine ⟨_, rfl, _, rfl, _, _, rfl, rfl, (Or.inl ⟨by decide, by decide⟩), _, _, rfl, rfl, m, cl, _, n, rfl, by omega, by omega, hn, hM, fun H1 r b1 m1 r0 r1 => ?_⟩
    refine ⟨_, rfl, _, _, rfl, rfl, ?_⟩
    exact q _ _ b1 m1 (by omega) (by omega)
/-! ### the state of a turn -/
def sp_law_begun (K : PySem.W.Frag) : Sp := fun vs H Q _ => ∃ (a : Addr) (k : Int) (ns : List Int), vs = [.ref a, .int k] ∧ SqL K H a (ns.map V.int) ∧ ns.length ≤ 63 ∧ 0 ≤ k ∧ k ≤ 100 ∧ ∀ H' m cl, Same H H' → H m = none → H cl = none → MAt H' m cl 0 → Q (.ref m) H'
theorem cut_int {ns : List Int} (lo hi : Option Int) : ∃ ms : List Int, cutV (ns.map V.int) lo hi = ms.map V.int ∧ ms.length ≤ ns.length := by
  unfold cutV
  refine ⟨(ns.drop (HT.sIx (ns.map V.int).length 0 lo)).take (HT.sIx (ns.map V.int).length (ns.map V.int).length hi - HT.sIx (ns.map V.int).length 0 lo), ?_, ?_⟩
  · rw [List.map_take, List.map_drop]
  · rw [List.length_take, List.length_drop]
    omega
abbrev s__law_begun : Stmt := topS 7
theorem sc__law_begun : FnScope ["script", "k", "cells", "great", "cell", "begun", "left"] ["script", "k"] (defScope s__law_begun) := ⟨rfl, rfl, rfl, by decide +kernel, rfl, by decide +kernel, by decide +kernel⟩
theorem k_law_begun (T : Tx K mg) (D : Df K mg "_law_begun" s__law_begun ["script", "k"])  : Kl P w K mg base 1 "_law_begun" (sp_law_begun K) := by
  have nd := sc__law_begun.nd
  refine Kl.by_body D sc__law_begun (fun vs H Q E h => ?_) (fun f cdv A outer s H vs Q E hr h => ?_)
  · obtain ⟨_, _, _, rfl, _⟩ := h
    rfl
  · obtain ⟨a, k, ns, rfl, hx, hl, hk0, hk1, q⟩ := h
    have hu1 := hu_of hr
    refine ⟨_, (pss_cons (ps_set (i := 2) nd rfl (by first | exact Or.inl rfl | exact Or.inr rfl) (pe_op op_cat (pe_slice sl_list (pv 0) (po_some (pv 1)) po_none) (pe_slice sl_list (pv 0) po_none (po_some (pv 1)))))
      (pss_cons (ps_setLc (i := 3) (own := [("cell", 4)]) (g := gName 4) rfl nd rfl rfl (sw_true rfl rfl rfl (by decide +kernel)) (pi_list (pv 0)) (blkOk_by (N := ["script", "k", "cells", "great", "cell", "begun", "left"]) (sc := defScope s__law_begun) (by decide +kernel)) (fun _ _ _ _ _ => (pg_name (i := 4) nd rfl (by first | exact Or.inl rfl | exact Or.inr rfl))) (fun _ _ _ _ _ => (pts_one (pt_cmpR op_ge (pv 4) (pe_op op_pow pe_int pe_int) (nomark _)))) (fun _ _ _ _ _ => (pv 4)))
      (pss_cons (ps_set (i := 5) nd rfl (by first | exact Or.inl rfl | exact Or.inr rfl) (pe_op op_add pe_int (pe_op op_mul pe_int (pv 1))))
      (pss_cons (ps_for PassesOwn.never rfl (pi_list (pv 2)) (pg_name (i := 4) nd rfl (by first | exact Or.inl rfl | exact Or.inr rfl)) (pss_one (ps_set (i := 5) nd rfl (by first | exact Or.inl rfl | exact Or.inr rfl) (pe_op op_mod (pe_callTy call_intI (by rfl) T.int (by decide +kernel) (pa_cons (pe_op op_add (pe_op op_mul (pv 5) pe_int) (pv 4)) pa_nil)) pe_int))))
      (pss_cons (ps_set (i := 6) nd rfl (by first | exact Or.inl rfl | exact Or.inr rfl) (pe_ifExp (pt_cmpR op_lt (pv 1) (pe_callB call_len_seq (by rfl) T.len (by decide +kernel) (pa_cons (pv 3) pa_nil)) (nomark _)) (pe_ix ix_list (pv 3) (pv 1) (fun _ _ => rfl)) pe_int))
      (pss_one (ps_ret (pe_disp (pps_cons pe_str (pv 6) (pps_cons pe_str (pv 5) (pps_cons pe_str (pe_op op_cat (pv 2) (pe_lst (pa_cons (pe_op op_add (pe_op op_mul pe_int (pv 1)) pe_int) pa_nil))) (pps_cons pe_str pe_int pps_nil)))) (by rfl) (by rfl) (fun z => by cases z) (by decide))))))))), ?_⟩
    obtain ⟨m1, e1, l1⟩ := cut_int (ns := ns) (some k) none
    obtain ⟨m2, e2, l2⟩ := cut_int (ns := ns) none (some k)
    refine ⟨.ref a, rfl, _, rfl, k, rfl, a, _, rfl, hx, fun p1 n1 => ?_⟩
    rw [e1]
    have s1 : Same H (upd H p1 (.lst (m1.map V.int))) := Same.new n1
    have g1 : (upd H p1 (.lst (m1.map V.int))) p1 = some (.lst (m1.map V.int)) := upd_same
    generalize upd H p1 (.lst (m1.map V.int)) = H1 at s1 g1 ⊢
    refine ⟨.ref a, rfl, _, rfl, k, rfl, a, _, rfl, s1.seq hx, fun p2 n2 => ?_⟩
    rw [e2]
    have s2 : Same H1 (upd H1 p2 (.lst (m2.map V.int))) := Same.new n2
    have g2 : (upd H1 p2 (.lst (m2.map V.int))) p2 = some (.lst (m2.map V.int)) := upd_same
    generalize upd H1 p2 (.lst (m2.map V.int)) = H2 at s2 g2 ⊢
    refine ⟨p1, p2, _, _, rfl, rfl, s2 _ _ g1, g2, ?_, fun p3 n3 => ?_⟩
    · rw [List.length_map, List.length_map]
      exact small (by omega)
    rw [← List.map_append]
    have s3 : Same H2 (upd H2 p3 (.lst ((m1 ++ m2).map V.int))) := Same.new n3
    have g3 : (upd H2 p3 (.lst ((m1 ++ m2).map V.int))) p3 = some (.lst ((m1 ++ m2).map V.int)) := upd_same
    have hl3 : (m1 ++ m2).length ≤ 126 := by
      rw [List.length_append]
      omega
    generalize m1 ++ m2 = cs at s3 g3 hl3 ⊢
    generalize upd H2 p3 (.lst (cs.map V.int)) = H3 at s3 g3 ⊢
    have sA : Same H H3 := (s1.trans s2).trans s3
    clear s1 s2 s3 g1 g2
    first | refine sigN [some (.ref a), some (.int (k)), some (V.ref p3), none, none, none, none] (by rfl) ?_ | refine sig [some (.ref a), some (.int (k)), some (V.ref p3), none, none, none, none] (by rfl) ?_
    refine ⟨.ref a, rfl, a, rfl, ⟨_, sA.seq hx⟩, fun D hD => ?_⟩
    refine lc_list (K := K) (a := a) (xs := ns.map V.int) (fun i H4 => Same H3 H4 ∧ ∃ gs : List Int, H4 D = some (.lst (gs.map V.int)) ∧ gs.length ≤ i) ⟨Same.new hD, [], upd_same, Nat.le_refl _⟩ (fun i H4 _ z => (sA.trans z.1).seq hx) (fun i x H4 hi z => ?_) (fun H4 z => ?_)
    · obtain ⟨s4, gs, g4, l4⟩ := z
      obtain ⟨y, rfl⟩ : ∃ y : Int, x = .int y := by
        rw [List.getElem?_map] at hi
        cases e : ns[i]? with
        | none =>
          rw [e] at hi
          cases hi
        | some y =>
          rw [e] at hi
          exact ⟨y, (Option.some.inj hi).symm⟩
      have hi2 : i < ns.length := by
        have h1 := (List.getElem?_eq_some_iff.mp hi).1
        rw [List.length_map] at h1
        exact h1
      refine ⟨rfl, _, rfl, _, _, rfl, rfl, ⟨by decide, by decide, by decide⟩, _, _, rfl, rfl, _, rfl, ite2 (fun _ => ?_) (fun _ => ?_)⟩
      · refine ⟨_, rfl, _, g4, ?_, Same.put s4 hD, gs ++ [y], ?_, ?_⟩
        · rw [List.length_map]
          exact small1000 (by omega)
        · rw [upd_same, List.map_append]
          rfl
        · rw [List.length_append]
          exact Nat.add_le_add_right l4 1
      · exact ⟨s4, gs, g4, Nat.le_succ_of_le l4⟩
    · obtain ⟨s4, gs, g4, l4⟩ := z
      have sB : Same H H4 := sA.trans s4
      have g3' := s4 _ _ g3
      refine ⟨_, rfl, _, _, rfl, rfl, (Or.inl ⟨by decide, by decide⟩), _, _, rfl, rfl, ?_⟩
      first | refine sigN [some (.ref a), some (.int (k)), some (V.ref p3), some (V.ref D), none, some (.int (61 + 9 * k)), none] (by rfl) ?_ | refine sig [some (.ref a), some (.int (k)), some (V.ref p3), some (V.ref D), none, some (.int (61 + 9 * k)), none] (by rfl) ?_
      refine ⟨_, rfl, p3, rfl, ⟨_, .inl (.inl g3')⟩, for_list (K := K) (a := p3) (xs := cs.map V.int) (fun i σ H5 => H5 = H4 ∧ ∃ (y : Int) (v : Option V), σ = [some (.ref a), some (.int k), some (.ref p3), some (.ref D), v, some (.int y), none]) ⟨rfl, _, none, rfl⟩ (fun i σ H5 _ z => by rw [z.1]; exact .inl (.inl g3')) ?_ ?_⟩
      · rintro i x σ H5 hi ⟨rfl, y, v, rfl⟩
        obtain ⟨t, rfl⟩ : ∃ t : Int, x = .int t := by
          rw [List.getElem?_map] at hi
          cases e : cs[i]? with
          | none =>
            rw [e] at hi
            cases hi
          | some t =>
            rw [e] at hi
            exact ⟨t, (Option.some.inj hi).symm⟩
        refine ⟨_, rfl, _, _, rfl, rfl, (Or.inr ⟨by decide, by decide⟩), _, rfl, _, _, rfl, rfl, _, rfl, _, _, rfl, rfl, (by show (0 : Int) < 2147483647; decide), ?_⟩
        exact ⟨rfl, _, _, rfl⟩
      · rintro σ H5 ⟨rfl, y, v, rfl⟩
        refine ⟨_, rfl, _, rfl, D, _, rfl, .inl (.inl (.inl g4)), _, _, rfl, rfl, _, rfl, ite2 (fun e => ?A) (fun e => ?B)⟩
        case' A =>
          have e' : k < ((gs.map V.int).length : Int) := of_decide_eq_true e
          rw [List.length_map] at e'
          have hk2 : k.toNat < gs.length := by omega
          have hz : atI (gs.map V.int) k = some (.int gs[k.toNat]) := by
            have key : atI (gs.map V.int) ((k.toNat : Nat) : Int) = some (.int gs[k.toNat]) := atI_nat (by
              rw [List.getElem?_map, List.getElem?_eq_getElem hk2]
              rfl)
            rw [show ((k.toNat : Nat) : Int) = k by omega] at key
            exact key
          refine ⟨_, rfl, _, rfl, D, _, _, _, rfl, rfl, .inl (.inl g4), hz, ?_⟩
        all_goals
          intro m nm
          have h3m : p3 ≠ m := ne_of_none g3' nm
          refine ⟨_, rfl, _, rfl, _, rfl, _, rfl, _, _, rfl, rfl, (Or.inl ⟨by decide, by decide⟩), _, _, rfl, rfl, (by show 1 ≤ sizeLine; decide), fun l nl => ?_⟩
          have nml : m ≠ l := ne_of_none upd_same nl
          have nl0 : H5 l = none := Same.free (Same.new nm) nl
          refine ⟨p3, l, cs.map V.int, [V.int (47 * k + 19)], rfl, rfl, ?_, upd_same, ?_, fun u nu => ?_⟩
          · rw [upd_ne (ne_of_none g3' nl0), upd_ne h3m]
            exact g3'
          · rw [List.length_map]
            exact small (by show cs.length + 1 ≤ 1000; omega)
          have nmu : m ≠ u := ne_of_none (by rw [upd_ne nml]; exact upd_same) nu
          have nu0 : H5 u = none := Same.free (Same.put (Same.new nm) nl0) nu
          refine ⟨?_, mk4 _ y u 0, rfl, (by show 4 ≤ 15; decide), ?_⟩
          · rw [upd_ne nmu, upd_ne nml]
            exact upd_same
          rw [m4_merge]
          have hm0 : H m = none := Same.free sB nm
          have hl0 : H l = none := Same.free sB nl0
          have hu0 : H u = none := Same.free sB nu0
          refine q _ m u (Same.put (Same.put (Same.put (Same.put sB hm0) hl0) hu0) hm0) hm0 hu0 ⟨_, y, cs ++ [47 * k + 19], 0, upd_same, Nat.le_refl _, ?_, ?_⟩
          · rw [upd_ne (fun z => nmu z.symm), upd_same, List.map_append]
            rfl
          · rw [List.length_append]
            exact Nat.lt_of_lt_of_le (by decide : 0 < 1) (Nat.le_add_left _ _)
end
end K41
set_option Elab.async false
set_option linter.all false
set_option maxRecDepth 100000
set_option maxHeartbeats 4000000
namespace K41
open PySem PySem.Spec PyProof.Rows L2 Gd QM K45M EcZ
def cL (c : C5) : List V := [.int c.a1, .int c.a2, .int c.a3, .int c.a4, .int c.a6]
def pL : EcZ.Pt → List V
  | none => []
  | some (x, y) => [.int x, .int y]
def dPt : EcZ.Pt → PyData
  | none => .tuple []
  | some (x, y) => .tuple [.int x, .int y]
abbrev HT (_ : PySem.W.Frag) (H : Hp) (t : Addr) (A : EcZ.Pt) : Prop := H t = some (.tup (pL A))
theorem dpt {K : PySem.W.Frag} {H : Hp} {t : Addr} {A : EcZ.Pt} (h : HT K H t A) : Dp K H (.ref t) (dPt A) := by
  match A, h with
  | none, h => exact .tup (tup_of h) .nil
  | some (x, y), h => exact .tup (tup_of (K := K) h) (.cons (.int _) (.cons (.int _) .nil))
theorem shp (A : EcZ.Pt) : SeqAt.shaped (dPt A) = true := by
  match A with
  | none => rfl
  | some (_, _) => rfl
theorem dp0 {K : PySem.W.Frag} {H : Hp} {t : Addr} (h : SqT K H t []) : Dp K H (.ref t) (.tuple []) := .tup h .nil
theorem eq00 : PyData.eqv (.tuple []) (.tuple []) = true := rfl
theorem eq20 (x y : Int) : PyData.eqv (.tuple [.int x, .int y]) (.tuple []) = false := rfl
theorem dgB {p u : Int} (hp : p ≤ 31) (h : Dg p u) : B 6 u := by
  unfold Dg at h
  unfold Gd.B
  omega
section
variable {P : Program} {w : World} {K : PySem.W.Frag} {mg : Str → Option Value} {base : Heap}
/-! ### the opposite -/
def sp_opposite_over (K : PySem.W.Frag) : Sp := fun vs H Q _ => ∃ (p : Int) (c : C5) (ca a : Addr) (A : EcZ.Pt), vs = [.int p, .ref ca, .ref a] ∧ Okc p c ∧ SqT K H ca (cL c) ∧ HT K H a A ∧ PtK p c A ∧ ∀ H' t, Same H H' → HT K H' t (pneg p c A) → Q (.ref t) H'
abbrev s_opposite_over : Stmt := topS 3
theorem sc_opposite_over : FnScope ["p", "curve", "P"] ["p", "curve", "P"] (defScope s_opposite_over) := ⟨rfl, rfl, rfl, by decide +kernel, rfl, by decide +kernel, by decide +kernel⟩
theorem k_opposite_over (T : Tx K mg) (D : Df K mg "opposite_over" s_opposite_over ["p", "curve", "P"])  : Kl P w K mg base 1 "opposite_over" (sp_opposite_over K) := by
  have nd := sc_opposite_over.nd
  refine Kl.by_body D sc_opposite_over (fun vs H Q E h => ?_) (fun f cdv A outer s H vs Q E hr h => ?_)
  · obtain ⟨_, _, _, _, _, rfl, _⟩ := h
    rfl
  · obtain ⟨p, c, ca, a, A, rfl, ok, hc, ha, kA, q⟩ := h
    have hu1 := hu_of hr
    refine ⟨_, (pss_cons (ps_if (pt_cmpR (op_eqD hr.units) (pv 2) (pe_tup pa_nil) (nomark _)) (pss_one (ps_ret (pe_tup pa_nil))) pss_nil)
      (pss_one (ps_ret (pe_tup (pa_cons (pe_ix ix_tup (pv 2) pe_int (fun _ _ => rfl)) (pa_cons (pe_op op_mod (pe_op op_sub (pe_op op_sub (pe_un un_neg (pe_ix ix_tup (pv 2) pe_int (fun _ _ => rfl))) (pe_op op_mulW (pe_ix ix_tup (pv 1) pe_int (fun _ _ => rfl)) (pe_ix ix_tup (pv 2) pe_int (fun _ _ => rfl)))) (pe_ix ix_tup (pv 1) pe_int (fun _ _ => rfl))) (pv 0)) pa_nil)))))), ?_⟩
    have hp0 := ok.p0
    refine ⟨_, rfl, (by show 0 ≤ sizeLine; decide), fun e ne => ?_⟩
    have s1 := Same.new (H := H) (p := e) (o := .tup []) ne
    have ge : upd H e (.tup []) e = some (.tup []) := upd_same
    generalize upd H e (.tup []) = H1 at s1 ge ⊢
    replace hc := Same.tup s1 hc
    replace ha := s1 _ _ ha
    refine ⟨dPt A, .tuple [], dpt ha, dp0 (tup_of ge), shp A, rfl, _, rfl, ?_⟩
    match A, ha, kA, q with
    | none, ha, kA, q =>
      refine iteY eq00 ?_
      exact ⟨(by show 0 ≤ sizeLine; decide), fun t nt => q _ t (s1.trans (Same.new nt)) upd_same⟩
    | some (x, y), ha, kA, q =>
      refine iteN (by rw [show dPt (some (x, y)) = .tuple [.int x, .int y] from rfl, eq20]; decide) ?_
      have hax : SqT K H1 a [.int x, .int y] := tup_of ha
      have xB := dgB ok.le kA.1
      have aB := dgB ok.le ok.d1
      refine ⟨_, rfl, a, _, 0, _, rfl, rfl, hax, rfl, _, rfl, a, _, 1, _, rfl, rfl, hax, rfl, _, rfl, _, rfl, ca, _, 0, _, rfl, rfl, hc, rfl, _, rfl, a, _, 0, _, rfl, rfl, hax, rfl, _, _, rfl, rfl, aB.mulW xB (by decide), _, _, rfl, rfl, _, rfl, ca, _, 2, _, rfl, rfl, hc, rfl, _, _, rfl, rfl, _, rfl, _, _, rfl, rfl, hp0, (by show 2 ≤ sizeLine; decide), fun t nt => ?_⟩
      exact q _ t (s1.trans (Same.new nt)) upd_same
/-! ### the sum -/
def sp_added_over (K : PySem.W.Frag) : Sp := fun vs H Q _ => ∃ (p : Int) (c : C5) (ca a b : Addr) (A A2 : EcZ.Pt), vs = [.int p, .ref ca, .ref a, .ref b] ∧ Okc p c ∧ SqT K H ca (cL c) ∧ HT K H a A ∧ HT K H b A2 ∧ PtK p c A ∧ PtK p c A2 ∧ ∀ H' t, Same H H' → HT K H' t (psum p c A A2) → Q (.ref t) H'
abbrev s_added_over : Stmt := topS 4
theorem sc_added_over : FnScope ["p", "curve", "P", "Q", "a1", "a2", "a3", "a4", "_", "x", "y", "k", "x3"] ["p", "curve", "P", "Q"] (defScope s_added_over) := ⟨rfl, rfl, rfl, by decide +kernel, rfl, by decide +kernel, by decide +kernel⟩
theorem k_added_over (T : Tx K mg) (D : Df K mg "added_over" s_added_over ["p", "curve", "P", "Q"]) (c_inverse_mod : Kl P w K mg base 1 "inverse_mod" (sp_inverse_mod K)) : Kl P w K mg base 2 "added_over" (sp_added_over K) := by
  have nd := sc_added_over.nd
  refine Kl.by_body D sc_added_over (fun vs H Q E h => ?_) (fun f cdv A outer s H vs Q E hr h => ?_)
  · obtain ⟨_, _, _, _, _, _, _, rfl, _⟩ := h
    rfl
  · obtain ⟨p, c, ca, a, b, A, A2, rfl, ok, hc, ha, hb, kA, kB, q⟩ := h
    have hu1 := hu_of hr
    refine ⟨_, (pss_cons (ps_if (pt_cmpR (op_eqD hr.units) (pv 2) (pe_tup pa_nil) (nomark _)) (pss_one (ps_ret (pv 3))) pss_nil)
      (pss_cons (ps_if (pt_cmpR (op_eqD hr.units) (pv 3) (pe_tup pa_nil) (nomark _)) (pss_one (ps_ret (pv 2))) pss_nil)
      (pss_cons (ps_asg (pv 1) (pg_tup rfl (pgs_cons (pg_name (i := 4) nd rfl (by first | exact Or.inl rfl | exact Or.inr rfl)) (pgs_cons (pg_name (i := 5) nd rfl (by first | exact Or.inl rfl | exact Or.inr rfl)) (pgs_cons (pg_name (i := 6) nd rfl (by first | exact Or.inl rfl | exact Or.inr rfl)) (pgs_cons (pg_name (i := 7) nd rfl (by first | exact Or.inl rfl | exact Or.inr rfl)) (pgs_cons (pg_name (i := 8) nd rfl (by first | exact Or.inl rfl | exact Or.inr rfl)) pgs_nil)))))))
      (pss_cons (ps_asg (pv 2) (pg_tup rfl (pgs_cons (pg_name (i := 9) nd rfl (by first | exact Or.inl rfl | exact Or.inr rfl)) (pgs_cons (pg_name (i := 10) nd rfl (by first | exact Or.inl rfl | exact Or.inr rfl)) pgs_nil))))
      (C8.pss_cut (ps_if (pt_cmpR op_ne (pv 9) (pe_ix ix_tup (pv 3) pe_int (fun _ _ => rfl)) (nomark _)) (pss_one (ps_set (i := 11) nd rfl (by first | exact Or.inl rfl | exact Or.inr rfl) (pe_op op_mulW (pe_op op_sub (pe_ix ix_tup (pv 3) pe_int (fun _ _ => rfl)) (pv 10)) (pe_k c_inverse_mod  hr (by decide) (by rfl) (pa_cons (pe_op op_sub (pe_ix ix_tup (pv 3) pe_int (fun _ _ => rfl)) (pv 9)) (pa_cons (pv 0) pa_nil)))))) (pss_one (ps_if (pt_cmpR op_eq (pe_op op_mod (pe_op op_add (pe_op op_add (pe_op op_add (pv 10) (pe_ix ix_tup (pv 3) pe_int (fun _ _ => rfl))) (pe_op op_mulW (pv 4) (pv 9))) (pv 6)) (pv 0)) pe_int (nomark _)) (pss_one (ps_ret (pe_tup pa_nil))) (pss_one (ps_set (i := 11) nd rfl (by first | exact Or.inl rfl | exact Or.inr rfl) (pe_op op_mulW (pe_op op_sub (pe_op op_add (pe_op op_mulW (pv 9) (pe_op op_add (pe_op op_mul pe_int (pv 9)) (pe_op op_mul pe_int (pv 5)))) (pv 7)) (pe_op op_mulW (pv 4) (pv 10))) (pe_k c_inverse_mod  hr (by decide) (by rfl) (pa_cons (pe_op op_add (pe_op op_add (pe_op op_mul pe_int (pv 10)) (pe_op op_mulW (pv 4) (pv 9))) (pv 6)) (pa_cons (pv 0) pa_nil)))))))))
      (pss_cons (ps_set (i := 12) nd rfl (by first | exact Or.inl rfl | exact Or.inr rfl) (pe_op op_mod (pe_op op_sub (pe_op op_sub (pe_op op_sub (pe_op op_mulW (pv 11) (pe_op op_add (pv 11) (pv 4))) (pv 5)) (pv 9)) (pe_ix ix_tup (pv 3) pe_int (fun _ _ => rfl))) (pv 0)))
      (pss_one (ps_ret (pe_tup (pa_cons (pv 12) (pa_cons (pe_op op_mod (pe_op op_sub (pe_op op_sub (pe_op op_sub (pe_op op_mulW (pv 11) (pe_op op_sub (pv 9) (pv 12))) (pv 10)) (pe_op op_mulW (pv 4) (pv 12))) (pv 6)) (pv 0)) pa_nil))))))))))), ?_⟩
    have hp0 := ok.p0
    refine ⟨_, rfl, (by show 0 ≤ sizeLine; decide), fun e ne => ?_⟩
    have s1 := Same.new (H := H) (p := e) (o := .tup []) ne
    have ge : upd H e (.tup []) e = some (.tup []) := upd_same
    generalize upd H e (.tup []) = H1 at s1 ge ⊢
    replace hc := Same.tup s1 hc
    replace ha := s1 _ _ ha
    replace hb := s1 _ _ hb
    refine ⟨dPt A, .tuple [], dpt ha, dp0 (tup_of ge), shp A, rfl, _, rfl, ?_⟩
    match A, ha, kA, q with
    | none, ha, kA, q =>
      refine iteY eq00 ?_
      exact ⟨_, rfl, q _ b s1 hb⟩
    | some (x, y), ha, kA, q =>
      refine iteN (by rw [show dPt (some (x, y)) = .tuple [.int x, .int y] from rfl, eq20]; decide) ?_
      have hax : SqT K H1 a [.int x, .int y] := tup_of ha
      refine ⟨_, rfl, (by show 0 ≤ sizeLine; decide), fun e2 ne2 => ?_⟩
      have s2 := Same.new (H := H1) (p := e2) (o := .tup []) ne2
      have ge2 : upd H1 e2 (.tup []) e2 = some (.tup []) := upd_same
      generalize upd H1 e2 (.tup []) = H2 at s2 ge2 ⊢
      replace hc := Same.tup s2 hc
      replace ha := s2 _ _ ha
      replace hb := s2 _ _ hb
      refine ⟨dPt A2, .tuple [], dpt hb, dp0 (tup_of ge2), shp A2, rfl, _, rfl, ?_⟩
      match A2, hb, kB, q with
      | none, hb, kB, q =>
        refine iteY eq00 ?_
        exact ⟨_, rfl, q _ a (s1.trans s2) ha⟩
      | some (z, w), hb, kB, q =>
        refine iteN (by rw [show dPt (some (z, w)) = .tuple [.int z, .int w] from rfl, eq20]; decide) ?_
        replace hb : SqT K H2 b [.int z, .int w] := tup_of hb
        replace hax : SqT K H2 a [.int x, .int y] := Same.tup s2 hax
        have sA := s1.trans s2
        have xB := dgB ok.le kA.1
        have yB := dgB ok.le kA.2.1
        have zB := dgB ok.le kB.1
        have wB := dgB ok.le kB.2.1
        have aB := dgB ok.le ok.d1
        have a2B := dgB ok.le ok.d2
        have a4B := dgB ok.le ok.d4
        have a3B := dgB ok.le ok.d3
        have pB : B 400 p := by
          have := ok.le
          unfold Gd.B
          omega
        have l2 : B 2 (2 : Int) := B.lit (by decide)
        have l3 : B 2 (3 : Int) := B.lit (by decide)
        refine ⟨_, rfl, ca, _, rfl, hc, rfl, _, _, rfl, _, _, rfl, _, _, rfl, _, _, rfl, _, _, rfl, rfl, ?_⟩
        first | refine sigN [some (.int (p)), some (.ref ca), some (.ref a), some (.ref b), some (.int (c.a1)), some (.int (c.a2)), some (.int (c.a3)), some (.int (c.a4)), some (.int (c.a6)), none, none, none, none] (by rfl) ?_ | refine sig [some (.int (p)), some (.ref ca), some (.ref a), some (.ref b), some (.int (c.a1)), some (.int (c.a2)), some (.int (c.a3)), some (.int (c.a4)), some (.int (c.a6)), none, none, none, none] (by rfl) ?_
        refine ⟨_, rfl, a, _, rfl, hax, rfl, _, _, rfl, _, _, rfl, rfl, ?_⟩
        first | refine sigN [some (.int (p)), some (.ref ca), some (.ref a), some (.ref b), some (.int (c.a1)), some (.int (c.a2)), some (.int (c.a3)), some (.int (c.a4)), some (.int (c.a6)), some (.int (x)), some (.int (y)), none, none] (by rfl) ?_ | refine sig [some (.int (p)), some (.ref ca), some (.ref a), some (.ref b), some (.int (c.a1)), some (.int (c.a2)), some (.int (c.a3)), some (.int (c.a4)), some (.int (c.a6)), some (.int (x)), some (.int (y)), none, none] (by rfl) ?_
        refine ⟨fun σ' H' => Same H2 H' ∧ ∃ k : Int, σ' = [some (.int p), some (.ref ca), some (.ref a), some (.ref b), some (.int c.a1), some (.int c.a2), some (.int c.a3), some (.int c.a4), some (.int c.a6), some (.int x), some (.int y), some (.int k), none] ∧ B 60 k ∧ psum p c (some (x, y)) (some (z, w)) = some (far p c k x y z), ?_, ?_⟩
        · refine ⟨_, rfl, _, rfl, b, _, 0, _, rfl, rfl, hb, rfl, rfl, _, rfl, ?_⟩
          rw [dec_int]
          by_cases hx : x = z
          · refine iteN (by simpa using hx) ?_
            refine ⟨_, rfl, _, rfl, b, _, 1, _, rfl, rfl, hb, rfl, _, _, rfl, rfl, _, rfl, _, rfl, _, _, rfl, rfl, aB.mulW xB (by decide), _, _, rfl, rfl, _, rfl, _, _, rfl, rfl, _, rfl, _, _, rfl, rfl, hp0, rfl, _, rfl, ?_⟩
            rw [dec_int]
            by_cases hop : (y + w + c.a1 * x + c.a3) % p = 0
            · refine iteY (by simpa using hop) ?_
              refine ⟨(by show 0 ≤ sizeLine; decide), fun t nt => q _ t (sA.trans (Same.new nt)) ?_⟩
              rw [psum_opp hx.symm ((opp_mod hp0 kB.2.1).mpr hop)]
              exact upd_same
            · refine iteN (by simpa using hop) ?_
              subst hx
              have hn : ¬(w = (-y - c.a1 * x - c.a3) % p) := fun g => hop ((opp_mod hp0 kB.2.1).mp g)
              have ey := same_y ok.pp kA kB hn
              subst ey
              have hu := dbl_unit hp0 kB.2.1 hn
              refine ⟨_, rfl, _, rfl, _, _, rfl, rfl, (Or.inl ⟨by decide, by decide⟩), _, rfl, _, _, rfl, rfl, (Or.inl ⟨by decide, by decide⟩), _, _, rfl, rfl, _, _, rfl, rfl, xB.mulW ((l3.mul xB).add (l2.mul a2B)) (by decide), _, rfl, _, _, rfl, rfl, _, rfl, _, rfl, _, _, rfl, rfl, aB.mulW wB (by decide), _, _, rfl, rfl, _, rfl, _, _, rfl, rfl, (Or.inl ⟨by decide, by decide⟩), _, rfl, _, rfl, _, _, rfl, rfl, aB.mulW xB (by decide), _, _, rfl, rfl, _, rfl, _, _, rfl, rfl, _, rfl, ?_⟩
              refine ⟨_, _, rfl, ok.p1, pB, unit_gcd ok.pp hu, fun H3 r s3 hr2 => ?_⟩
              have rB := dgB ok.le hr2.1
              have uB := ((xB.mul ((l3.mul xB).add (l2.mul a2B))).add a4B).sub (aB.mul wB)
              refine ⟨_, _, rfl, rfl, uB.mulW rB (by decide), ?_⟩
              refine ⟨s3, _, rfl, (uB.mul rB).up (by decide), ?_⟩
              rw [psum_dbl hn hr2]
              congr 1
              rw [show x * (3 * x + 2 * c.a2) = 3 * x * x + 2 * c.a2 * x by grind]
          · refine iteY (by simpa using hx) ?_
            have hu := diff_unit ok.pp kA.1 kB.1 hx
            refine ⟨_, rfl, b, _, 1, _, rfl, rfl, hb, rfl, _, rfl, _, _, rfl, rfl, _, rfl, b, _, 0, _, rfl, rfl, hb, rfl, _, rfl, _, _, rfl, rfl, _, rfl, ?_⟩
            refine ⟨_, _, rfl, ok.p1, pB, unit_gcd ok.pp hu, fun H3 r s3 hr2 => ?_⟩
            have rB := dgB ok.le hr2.1
            refine ⟨_, _, rfl, rfl, (wB.sub yB).mulW rB (by decide), ?_⟩
            exact ⟨s3, _, rfl, ((wB.sub yB).mul rB).up (by decide), psum_diff hx hr2⟩
        rintro σ' H3 ⟨s3, k, rfl, kB, e⟩
        replace hb := Same.tup s3 hb
        refine ⟨_, rfl, _, rfl, _, rfl, _, _, rfl, rfl, _, _, rfl, rfl, kB.mulW (kB.add aB) (by decide), _, rfl, _, _, rfl, rfl, _, rfl, _, _, rfl, rfl, _, rfl, b, _, 0, _, rfl, rfl, hb, rfl, _, _, rfl, rfl, _, rfl, _, _, rfl, rfl, hp0, ?_⟩
        obtain ⟨e1, e2⟩ := far_eq (p := p) (c := c) (k := k) (x := x) (y := y) (z := z)
        have fB := dgB ok.le (far_dg (c := c) hp0 k x y z).1
        first | refine sigN [some (.int (p)), some (.ref ca), some (.ref a), some (.ref b), some (.int (c.a1)), some (.int (c.a2)), some (.int (c.a3)), some (.int (c.a4)), some (.int (c.a6)), some (.int (x)), some (.int (y)), some (.int (k)), some (.int ((k * (k + c.a1) - c.a2 - x - z) % p))] (by rfl) ?_ | refine sig [some (.int (p)), some (.ref ca), some (.ref a), some (.ref b), some (.int (c.a1)), some (.int (c.a2)), some (.int (c.a3)), some (.int (c.a4)), some (.int (c.a6)), some (.int (x)), some (.int (y)), some (.int (k)), some (.int ((k * (k + c.a1) - c.a2 - x - z) % p))] (by rfl) ?_
        rw [← e1]
        obtain ⟨X, hX⟩ : ∃ X, (far p c k x y z).1 = X := ⟨_, rfl⟩
        rw [hX] at fB ⊢
        refine ⟨_, rfl, _, rfl, _, rfl, _, rfl, _, _, rfl, rfl, _, _, rfl, rfl, kB.mulW (xB.sub fB) (by decide), _, rfl, _, _, rfl, rfl, _, rfl, _, rfl, _, _, rfl, rfl, aB.mulW fB (by decide), _, _, rfl, rfl, _, rfl, _, _, rfl, rfl, _, rfl, _, _, rfl, rfl, hp0, (by show 2 ≤ sizeLine; decide), fun t nt => ?_⟩
        refine q _ t (sA.trans (s3.trans (Same.new nt))) ?_
        rw [e]
        show upd H3 t _ t = some (.tup [.int (far p c k x y z).1, .int (far p c k x y z).2])
        rw [hX, e2 X hX.symm]
        exact upd_same
end
end K41
/-! Multiples of a point modulo a prime. Plain mathematics. -/
set_option linter.all false
namespace K41
open K45M EcZ
section
variable {p : Int} {c : C5} {A B D : EcZ.Pt}
theorem Okc.sum (o : Okc p c) (ha : PtK p c A) (hb : PtK p c B) : PtK p c (psum p c A B) := psum_ok o.pp ha hb
theorem Okc.comm (o : Okc p c) (ha : PtK p c A) (hb : PtK p c B) : psum p c A B = psum p c B A := psum_comm o.pp ha hb
theorem Okc.assoc (o : Okc p c) (ha : PtK p c A) (hb : PtK p c B) (hd : PtK p c D) : psum p c (psum p c A B) D = psum p c A (psum p c B D) := psum_assoc o.pp o.disc ha hb hd
theorem none_ok : PtK p c none := trivial
theorem none_sum : psum p c none A = A := rfl
noncomputable def smul (p : Int) (c : C5) (A : EcZ.Pt) : Nat → EcZ.Pt
  | 0 => none
  | n + 1 => psum p c (smul p c A n) A
theorem smul_ok (o : Okc p c) (ha : PtK p c A) : ∀ n, PtK p c (smul p c A n)
  | 0 => trivial
  | n + 1 => o.sum (smul_ok o ha n) ha
theorem smul_one : smul p c A 1 = A := rfl
theorem smul_add (o : Okc p c) (ha : PtK p c A) (m : Nat) : ∀ n, smul p c A (m + n) = psum p c (smul p c A m) (smul p c A n)
  | 0 => psum_none.symm
  | n + 1 => by
    show psum p c (smul p c A (m + n)) A = psum p c (smul p c A m) (psum p c (smul p c A n) A)
    rw [smul_add o ha m n, o.assoc (smul_ok o ha m) (smul_ok o ha n) ha]
theorem smul_dbl (o : Okc p c) (ha : PtK p c A) : ∀ m, smul p c (psum p c A A) m = smul p c A (2 * m)
  | 0 => rfl
  | m + 1 => by
    show psum p c (smul p c (psum p c A A) m) (psum p c A A) = _
    rw [smul_dbl o ha m, show 2 * (m + 1) = 2 * m + 2 by omega, smul_add o ha (2 * m) 2]
    rfl
theorem smul_odd (o : Okc p c) (ha : PtK p c A) {R : EcZ.Pt} (hr : PtK p c R) {j : Nat} (h : j % 2 = 1) : psum p c (psum p c R A) (smul p c (psum p c A A) (j / 2)) = psum p c R (smul p c A j) := by
  rw [smul_dbl o ha, o.assoc hr ha (smul_ok o ha _)]
  congr 1
  have e := smul_add o ha 1 (2 * (j / 2))
  rw [smul_one] at e
  rw [← e]
  congr 1
  omega
theorem smul_even (o : Okc p c) (ha : PtK p c A) {R : EcZ.Pt} {j : Nat} (h : j % 2 = 0) : psum p c R (smul p c (psum p c A A) (j / 2)) = psum p c R (smul p c A j) := by
  rw [smul_dbl o ha]
  congr 2
  omega
end
end K41
set_option Elab.async false
set_option linter.all false
set_option maxRecDepth 100000
set_option maxHeartbeats 4000000
namespace K41
open PySem PySem.Spec PyProof.Rows L2 Gd QM K45M EcZ
/-- a multiple by any whole number -/
noncomputable def zmul (p : Int) (c : C5) (A : EcZ.Pt) (n : Int) : EcZ.Pt := if n < 0 then smul p c (pneg p c A) (-n).toNat else smul p c A n.toNat
section
variable {P : Program} {w : World} {K : PySem.W.Frag} {mg : Str → Option Value} {base : Heap}
/-! ### multiples -/
def sp_multiple_over (K : PySem.W.Frag) : Sp := fun vs H Q _ => ∃ (p : Int) (c : C5) (ca a : Addr) (n : Int) (A : EcZ.Pt), vs = [.int p, .ref ca, .int n, .ref a] ∧ Okc p c ∧ SqT K H ca (cL c) ∧ B 80 n ∧ HT K H a A ∧ PtK p c A ∧ ∀ H' t, Same H H' → HT K H' t (zmul p c A n) → Q (.ref t) H'
abbrev s_multiple_over : Stmt := topS 5
theorem sc_multiple_over : FnScope ["p", "curve", "n", "P", "result"] ["p", "curve", "n", "P"] (defScope s_multiple_over) := ⟨rfl, rfl, rfl, by decide +kernel, rfl, by decide +kernel, by decide +kernel⟩
theorem k_multiple_over (T : Tx K mg) (D : Df K mg "multiple_over" s_multiple_over ["p", "curve", "n", "P"]) (c_added_over : Kl P w K mg base 2 "added_over" (sp_added_over K)) (c_opposite_over : Kl P w K mg base 1 "opposite_over" (sp_opposite_over K)) : Kl P w K mg base 3 "multiple_over" (sp_multiple_over K) := by
  have nd := sc_multiple_over.nd
  refine Kl.by_body D sc_multiple_over (fun vs H Q E h => ?_) (fun f cdv A outer s H vs Q E hr h => ?_)
  · obtain ⟨_, _, _, _, _, _, rfl, _⟩ := h
    rfl
  · obtain ⟨p, c, ca, a, n0, A0, rfl, ok, hc, hn0, ha, kA, q⟩ := h
    have hu1 := hu_of hr
    refine ⟨_, (C8.pss_cut (ps_if (pt_cmpR op_lt (pv 2) pe_int (nomark _)) (pss_one (ps_par (i := 2) (j := 3) (by rfl) nd rfl rfl (by decide) rfl rfl (pa_cons (pe_un un_neg (pv 2)) (pa_cons (pe_k c_opposite_over  hr (by decide) (by rfl) (pa_cons (pv 0) (pa_cons (pv 1) (pa_cons (pv 3) pa_nil)))) pa_nil)) (by rfl))) pss_nil)
      (pss_cons (ps_set (i := 4) nd rfl (by first | exact Or.inl rfl | exact Or.inr rfl) (pe_tup pa_nil))
      (pss_cons (ps_while PassesOwn.never (pt_cmpR op_gt (pv 2) pe_int (nomark _)) (C8.pss_cut (ps_if (pt_truth (pe_op op_and (pv 2) pe_int) (fun _ => rfl)) (pss_one (ps_set (i := 4) nd rfl (by first | exact Or.inl rfl | exact Or.inr rfl) (pe_k c_added_over  hr (by decide) (by rfl) (pa_cons (pv 0) (pa_cons (pv 1) (pa_cons (pv 4) (pa_cons (pv 3) pa_nil))))))) pss_nil)
      (pss_cons (ps_set (i := 3) nd rfl (by first | exact Or.inl rfl | exact Or.inr rfl) (pe_k c_added_over  hr (by decide) (by rfl) (pa_cons (pv 0) (pa_cons (pv 1) (pa_cons (pv 3) (pa_cons (pv 3) pa_nil))))))
      (pss_one (ps_set (i := 2) nd rfl (by first | exact Or.inl rfl | exact Or.inr rfl) (pe_op op_shr (pv 2) pe_int))))))
      (pss_one (ps_ret (pv 4)))))), ?_⟩
    refine ⟨fun σ' H' => Same H H' ∧ ∃ (n : Nat) (a : Addr) (A : EcZ.Pt), σ' = [some (.int p), some (.ref ca), some (.int (n : Int)), some (.ref a), none] ∧ HT K H' a A ∧ PtK p c A ∧ smul p c A n = zmul p c A0 n0, ?_, ?_⟩
    · refine ⟨_, rfl, _, _, rfl, rfl, _, rfl, ?_⟩
      by_cases h0 : n0 < 0
      · refine iteY (decide_eq_true h0) ?_
        refine ⟨_, rfl, _, rfl, _, rfl, _, rfl, _, rfl, p, c, ca, a, A0, rfl, ok, hc, ha, kA, fun H1 t s1 h1 => ⟨_, _, rfl, ?_⟩⟩
        refine ⟨s1, (-n0).toNat, t, _, ?_, h1, pneg_ok ok.p0 kA, ?_⟩
        · rw [show (((-n0).toNat : Nat) : Int) = -n0 by omega]
          rfl
        · unfold zmul
          rw [if_pos h0]
      · refine iteN (by simpa using h0) ?_
        refine ⟨Same.refl _, n0.toNat, a, A0, ?_, ha, kA, ?_⟩
        · rw [show ((n0.toNat : Nat) : Int) = n0 by omega]
          rfl
        · unfold zmul
          rw [if_neg h0]
    rintro σ' H0 ⟨s0, n, a, A, rfl, ha, kA, eA⟩
    replace hc := Same.tup s0 hc
    rw [← eA] at q
    refine ⟨(by show 0 ≤ sizeLine; decide), fun r nr => ?_⟩
    have s1 := Same.new (H := H0) (p := r) (o := .tup []) nr
    have gr : upd H0 r (.tup []) r = some (.tup []) := upd_same
    generalize upd H0 r (.tup []) = H1 at s1 gr ⊢
    first | refine sigN [some (.int (p)), some (.ref ca), some (.int ((n : Int))), some (.ref a), some (.ref r)] (by rfl) ?_ | refine sig [some (.int (p)), some (.ref ca), some (.int ((n : Int))), some (.ref a), some (.ref r)] (by rfl) ?_
    refine while_by (fun σ H2 => Same H1 H2 ∧ ∃ (j : Nat) (d f : Addr) (D R : EcZ.Pt), σ = [some (.int p), some (.ref ca), some (.int (j : Int)), some (.ref d), some (.ref f)] ∧ HT K H2 d D ∧ HT K H2 f R ∧ PtK p c D ∧ PtK p c R ∧ psum p c R (smul p c D j) = smul p c A n)
      (fun σ _ => match σ with | [_, _, some (.int j), _, _] => j.toNat | _ => 0) ⟨Same.refl _, n, a, r, A, none, rfl, s1 _ _ ha, gr, kA, trivial, rfl⟩ ?_ ?_
    · rintro σ H2 ⟨s2, j, d, f, D, R, rfl, hd, hf, kD, kR, e⟩
      refine ⟨_, rfl, _, _, rfl, rfl, _, rfl, ?_⟩
      by_cases hj : j = 0
      · subst hj
        refine iteN (by simp) ?_
        refine ⟨_, rfl, q _ f (s0.trans (s1.trans s2)) ?_⟩
        rw [← e, show smul p c D 0 = none from rfl, psum_none]
        exact hf
      · refine iteY (by simp; omega) ?_
        have hc2 := Same.tup s2 (Same.tup s1 hc)
        have hsh : (j : Int) / 2 ^ (1 : Int).toNat = ((j / 2 : Nat) : Int) := by
          show (j : Int) / 2 = _
          omega
        refine ⟨fun σ' H3 => Same H2 H3 ∧ ∃ (f' : Addr) (R' : EcZ.Pt), σ' = [some (.int p), some (.ref ca), some (.int (j : Int)), some (.ref d), some (.ref f')] ∧ HT K H3 f' R' ∧ PtK p c R' ∧ psum p c R' (smul p c (psum p c D D) (j / 2)) = smul p c A n, ?_, ?_⟩
        · refine ⟨_, rfl, (j : Int), 1, rfl, rfl, _, rfl, ?_⟩
          rw [bitAnd_m1]
          by_cases hp : j % 2 = 1
          · refine iteY (by simp; omega) ?_
            refine ⟨_, rfl, _, rfl, _, rfl, _, rfl, p, c, ca, f, d, R, D, rfl, ok, hc2, hf, hd, kR, kD, fun H3 t s3 h3 => ?_⟩
            exact ⟨s3, t, _, rfl, h3, ok.sum kR kD, (smul_odd ok kD kR hp).trans e⟩
          · refine iteN (by simp; omega) ?_
            exact ⟨Same.refl _, f, R, rfl, hf, kR, (smul_even ok kD (by omega)).trans e⟩
        · rintro σ' H3 ⟨s3, f', R', rfl, hf3, kR', e3⟩
          have hd3 := s3 _ _ hd
          refine ⟨_, rfl, _, rfl, _, rfl, _, rfl, p, c, ca, d, d, D, D, rfl, ok, Same.tup s3 hc2, hd3, hd3, kD, kD, fun H4 t s4 h4 => ?_⟩
          first | refine sigN [some (.int (p)), some (.ref ca), some (.int ((j : Int))), some (.ref t), some (.ref f')] (by rfl) ?_ | refine sig [some (.int (p)), some (.ref ca), some (.int ((j : Int))), some (.ref t), some (.ref f')] (by rfl) ?_
          refine ⟨_, rfl, _, _, rfl, rfl, by omega, ?_⟩
          refine ⟨⟨s2.trans (s3.trans s4), j / 2, t, f', _, R', by rw [← hsh]; rfl, h4, s4 _ _ hf3, ok.sum kD kD, kR', e3⟩, ?_⟩
          show ((j : Int) / 2 ^ (1 : Int).toNat).toNat < (j : Int).toNat
          rw [hsh]
          omega
    · rintro σ H2 Q1 Q2 i ⟨v, hv, x, y, e1, e2, b, e3, z⟩
      exact ⟨v, hv, x, y, e1, e2, b, e3, i _ _ z⟩
end
end K41
set_option Elab.async false
set_option linter.all false
set_option maxRecDepth 100000
set_option maxHeartbeats 4000000
namespace K41
open PySem PySem.Spec PyProof.Rows L2 Gd QM K45M EcZ
local macro_rules | `(tactic| walk_at "bd") => `(tactic| (repeat (first | assumption | apply B.add | apply B.sub | apply B.mul | apply B.neg | exact B.lit (n := 8) (by decide))))
local macro_rules | `(tactic| walk_at "bnd") => `(tactic| (apply B.mulW; walk_at "bd"; decide))
local macro_rules | `(tactic| walk_at "pw") => `(tactic| exact B.up (n := 64) (by assumption) (by decide))
theorem iteT {A B : Prop} (b : A) : if true = true then A else B := by
  rw [if_pos rfl]
  exact b
theorem iteF {A B : Prop} (b : B) : if false = true then A else B := by
  rw [if_neg (by decide)]
  exact b
theorem B_abs {x : Int} {m : Nat} (h : x.natAbs < 2 ^ m) : B m x := h
theorem C5.law_disc (c : C5) : 9 * c.b2 * c.b4 * c.b6 - c.b2 * c.b2 * c.b8 - 8 * c.b4 ^ 3 - 27 * c.b6 * c.b6 = c.disc := by
  unfold C5.disc
  grind
section
variable {P : Program} {w : World} {K : PySem.W.Frag} {mg : Str → Option Value} {base : Heap}
/-! ### the law's numbers -/
/-- digits below 32 -/
def Sm (c : C5) : Prop := B 5 c.a1 ∧ B 5 c.a2 ∧ B 5 c.a3 ∧ B 5 c.a4 ∧ B 5 c.a6
def sp_law_numbers (K : PySem.W.Frag) : Sp := fun vs H Q _ => ∃ (p : Addr) (c : C5), vs = [.ref p] ∧ SqT K H p (cL c) ∧ Sm c ∧ ∀ t c4 c6, H t = none → Q (.ref t) (upd H t (.tup [.int c.b2, .int c.b4, .int c.b6, .int c.b8, .int c4, .int c6, .int c.disc]))
abbrev s__law_numbers : Stmt := topS 11
theorem sc__law_numbers : FnScope ["five", "a", "b", "c", "d", "e", "b2", "b4", "b6", "b8", "c4", "c6", "disc"] ["five"] (defScope s__law_numbers) := ⟨rfl, rfl, rfl, by decide +kernel, rfl, by decide +kernel, by decide +kernel⟩
theorem k_law_numbers (T : Tx K mg) (D : Df K mg "_law_numbers" s__law_numbers ["five"])  : Kl P w K mg base 1 "_law_numbers" (sp_law_numbers K) := by
  have nd := sc__law_numbers.nd
  refine Kl.by_body D sc__law_numbers (fun vs H Q E h => ?_) (fun f cdv A outer s H vs Q E hr h => ?_)
  · obtain ⟨_, _, rfl, _⟩ := h
    rfl
  · obtain ⟨p, c, rfl, hx, hm, q⟩ := h
    have hu1 := hu_of hr
    refine ⟨_, (pss_cons (ps_asg (pv 0) (pg_tup rfl (pgs_cons (pg_name (i := 1) nd rfl (by first | exact Or.inl rfl | exact Or.inr rfl)) (pgs_cons (pg_name (i := 2) nd rfl (by first | exact Or.inl rfl | exact Or.inr rfl)) (pgs_cons (pg_name (i := 3) nd rfl (by first | exact Or.inl rfl | exact Or.inr rfl)) (pgs_cons (pg_name (i := 4) nd rfl (by first | exact Or.inl rfl | exact Or.inr rfl)) (pgs_cons (pg_name (i := 5) nd rfl (by first | exact Or.inl rfl | exact Or.inr rfl)) pgs_nil)))))))
      (pss_cons (ps_par3 (i := 6) (j := 7) (l := 8) (by rfl) nd rfl rfl rfl (by decide) (by decide) (by decide) rfl rfl rfl (pa_cons (pe_op op_add (pe_op op_mulW (pv 1) (pv 1)) (pe_op op_mul pe_int (pv 2))) (pa_cons (pe_op op_add (pe_op op_mul pe_int (pv 4)) (pe_op op_mulW (pv 1) (pv 3))) (pa_cons (pe_op op_add (pe_op op_mulW (pv 3) (pv 3)) (pe_op op_mul pe_int (pv 5))) pa_nil))) (by rfl))
      (pss_cons (ps_set (i := 9) nd rfl (by first | exact Or.inl rfl | exact Or.inr rfl) (pe_op op_fdiv (pe_op op_sub (pe_op op_mulW (pv 6) (pv 8)) (pe_op op_mulW (pv 7) (pv 7))) pe_int))
      (pss_cons (ps_par (i := 10) (j := 11) (by rfl) nd rfl rfl (by decide) rfl rfl (pa_cons (pe_op op_sub (pe_op op_mulW (pv 6) (pv 6)) (pe_op op_mul pe_int (pv 7))) (pa_cons (pe_op op_sub (pe_op op_sub (pe_op op_mulW (pe_op op_mul pe_int (pv 6)) (pv 7)) (pe_op op_pow (pv 6) pe_int)) (pe_op op_mul pe_int (pv 8))) pa_nil)) (by rfl))
      (pss_cons (ps_set (i := 12) nd rfl (by first | exact Or.inl rfl | exact Or.inr rfl) (pe_op op_sub (pe_op op_mulW (pe_op op_mulW (pe_op op_mul pe_int (pv 6)) (pv 7)) (pv 8)) (pe_op op_mulW (pe_op op_mulW (pv 6) (pv 6)) (pv 9))))
      (pss_one (ps_ret (pe_tup (pa_cons (pv 6) (pa_cons (pv 7) (pa_cons (pv 8) (pa_cons (pv 9) (pa_cons (pv 10) (pa_cons (pv 11) (pa_cons (pe_op op_sub (pe_op op_sub (pv 12) (pe_op op_mul pe_int (pe_op op_pow (pv 7) pe_int))) (pe_op op_mulW (pe_op op_mul pe_int (pv 8)) (pv 8))) pa_nil))))))))))))))), ?_⟩
    obtain ⟨h1, h2, h3, h4, h6⟩ := hm
    have e2 : B 12 c.b2 := ((h1.mul h1).add ((B.lit (n := 3) (by decide)).mul h2)).up (by decide)
    have e4 : B 12 c.b4 := (((B.lit (n := 2) (by decide)).mul h4).add (h1.mul h3)).up (by decide)
    have e6 : B 12 c.b6 := ((h3.mul h3).add ((B.lit (n := 3) (by decide)).mul h6)).up (by decide)
    have p3 : B 64 (c.b2 ^ (3 : Int).toNat) := (e2.pow 3).up (by decide)
    have p4 : B 64 (c.b4 ^ (3 : Int).toNat) := (e4.pow 3).up (by decide)
    refine ⟨.ref p, rfl, p, _, rfl, hx, rfl, _, _, rfl, _, _, rfl, _, _, rfl, _, _, rfl, _, _, rfl, rfl, ?_⟩
    first | refine sigN [some (.ref p), some (.int (c.a1)), some (.int (c.a2)), some (.int (c.a3)), some (.int (c.a4)), some (.int (c.a6)), none, none, none, none, none, none, none] (by rfl) ?_ | refine sig [some (.ref p), some (.int (c.a1)), some (.int (c.a2)), some (.int (c.a3)), some (.int (c.a4)), some (.int (c.a6)), none, none, none, none, none, none, none] (by rfl) ?_
    refine ⟨_, rfl, _, rfl, _, _, rfl, rfl, (by walk_at "bnd"), _, rfl, _, _, rfl, rfl, (Or.inl ⟨by decide, by decide⟩), _, _, rfl, rfl, _, rfl, _, _, rfl, rfl, (Or.inl ⟨by decide, by decide⟩), _, rfl, _, rfl, _, _, rfl, rfl, (by walk_at "bnd"), _, _, rfl, rfl, _, rfl, _, rfl, _, _, rfl, rfl, (by walk_at "bnd"), _, rfl, _, _, rfl, rfl, (Or.inl ⟨by decide, by decide⟩), _, _, rfl, rfl, _, _, _, rfl, ?_⟩
    first | refine sigN [some (.ref p), some (.int (c.a1)), some (.int (c.a2)), some (.int (c.a3)), some (.int (c.a4)), some (.int (c.a6)), some (.int (c.b2)), some (.int (c.b4)), some (.int (c.b6)), none, none, none, none] (by rfl) ?_ | refine sig [some (.ref p), some (.int (c.a1)), some (.int (c.a2)), some (.int (c.a3)), some (.int (c.a4)), some (.int (c.a6)), some (.int (c.b2)), some (.int (c.b4)), some (.int (c.b6)), none, none, none, none] (by rfl) ?_
    refine ⟨_, rfl, _, rfl, _, _, rfl, rfl, (by walk_at "bnd"), _, rfl, _, rfl, _, _, rfl, rfl, (by walk_at "bnd"), _, _, rfl, rfl, _, _, rfl, rfl, ⟨by decide, by decide⟩, ?_⟩
    have e8 : (c.b2 * c.b6 - c.b4 * c.b4) / 4 = c.b8 := by
      rw [c.b8_4]
      omega
    first | refine sigN [some (.ref p), some (.int (c.a1)), some (.int (c.a2)), some (.int (c.a3)), some (.int (c.a4)), some (.int (c.a6)), some (.int (c.b2)), some (.int (c.b4)), some (.int (c.b6)), some (.int ((c.b2 * c.b6 - c.b4 * c.b4) / 4)), none, none, none] (by rfl) ?_ | refine sig [some (.ref p), some (.int (c.a1)), some (.int (c.a2)), some (.int (c.a3)), some (.int (c.a4)), some (.int (c.a6)), some (.int (c.b2)), some (.int (c.b4)), some (.int (c.b6)), some (.int ((c.b2 * c.b6 - c.b4 * c.b4) / 4)), none, none, none] (by rfl) ?_
    rw [e8]
    have h8 : B 40 c.b8 := by
      have h : B 30 (4 * c.b8) := by
        rw [← c.b8_4]
        exact ((e2.mul e6).sub (e4.mul e4)).up (by decide)
      unfold Gd.B at *
      omega
    refine ⟨_, rfl, _, rfl, _, _, rfl, rfl, (by walk_at "bnd"), _, rfl, _, _, rfl, rfl, (Or.inl ⟨by decide, by decide⟩), _, _, rfl, rfl, _, rfl, _, _, rfl, rfl, (Or.inl ⟨by decide, by decide⟩), _, rfl, _, _, rfl, rfl, (by walk_at "bnd"), _, rfl, _, _, rfl, rfl, ⟨by decide, by decide, by walk_at "pw"⟩, _, _, rfl, rfl, _, rfl, _, _, rfl, rfl, (Or.inl ⟨by decide, by decide⟩), _, _, rfl, rfl, _, _, rfl, ?_⟩
    first | refine sigN [some (.ref p), some (.int (c.a1)), some (.int (c.a2)), some (.int (c.a3)), some (.int (c.a4)), some (.int (c.a6)), some (.int (c.b2)), some (.int (c.b4)), some (.int (c.b6)), some (.int (c.b8)), some (.int (c.b2 * c.b2 - 24 * c.b4)), some (.int (36 * c.b2 * c.b4 - c.b2 ^ 3 - 216 * c.b6)), none] (by rfl) ?_ | refine sig [some (.ref p), some (.int (c.a1)), some (.int (c.a2)), some (.int (c.a3)), some (.int (c.a4)), some (.int (c.a6)), some (.int (c.b2)), some (.int (c.b4)), some (.int (c.b6)), some (.int (c.b8)), some (.int (c.b2 * c.b2 - 24 * c.b4)), some (.int (36 * c.b2 * c.b4 - c.b2 ^ 3 - 216 * c.b6)), none] (by rfl) ?_
    refine ⟨_, rfl, _, _, rfl, rfl, (Or.inl ⟨by decide, by decide⟩), _, rfl, _, _, rfl, rfl, (by walk_at "bnd"), _, rfl, _, _, rfl, rfl, (by walk_at "bnd"), _, rfl, _, rfl, _, _, rfl, rfl, (by walk_at "bnd"), _, rfl, _, _, rfl, rfl, (by walk_at "bnd"), _, _, rfl, rfl, ?_⟩
    first | refine sigN [some (.ref p), some (.int (c.a1)), some (.int (c.a2)), some (.int (c.a3)), some (.int (c.a4)), some (.int (c.a6)), some (.int (c.b2)), some (.int (c.b4)), some (.int (c.b6)), some (.int (c.b8)), some (.int (c.b2 * c.b2 - 24 * c.b4)), some (.int (36 * c.b2 * c.b4 - c.b2 ^ 3 - 216 * c.b6)), some (.int (9 * c.b2 * c.b4 * c.b6 - c.b2 * c.b2 * c.b8))] (by rfl) ?_ | refine sig [some (.ref p), some (.int (c.a1)), some (.int (c.a2)), some (.int (c.a3)), some (.int (c.a4)), some (.int (c.a6)), some (.int (c.b2)), some (.int (c.b4)), some (.int (c.b6)), some (.int (c.b8)), some (.int (c.b2 * c.b2 - 24 * c.b4)), some (.int (36 * c.b2 * c.b4 - c.b2 ^ 3 - 216 * c.b6)), some (.int (9 * c.b2 * c.b4 * c.b6 - c.b2 * c.b2 * c.b8))] (by rfl) ?_
    refine ⟨_, rfl, _, rfl, _, rfl, _, rfl, _, rfl, _, rfl, _, rfl, _, rfl, _, _, rfl, rfl, ⟨by decide, by decide, by walk_at "pw"⟩, _, _, rfl, rfl, (Or.inl ⟨by decide, by decide⟩), _, _, rfl, rfl, _, rfl, _, _, rfl, rfl, (Or.inl ⟨by decide, by decide⟩), _, rfl, _, _, rfl, rfl, (by walk_at "bnd"), _, _, rfl, rfl, (by show 7 ≤ sizeLine; decide), fun t nt => ?_⟩
    have := q t (c.b2 * c.b2 - 24 * c.b4) (36 * c.b2 * c.b4 - c.b2 ^ 3 - 216 * c.b6) nt
    rw [← C5.law_disc] at this
    exact this
end
end K41
set_option Elab.async false
set_option linter.all false
set_option maxRecDepth 100000
set_option maxHeartbeats 4000000
namespace K41
open PySem PySem.Spec PyProof.Rows L2 Gd QM K45M EcZ
theorem eqv_q2 (a b c d : Int) : PyData.eqv (.tuple [.int a, .int b]) (.tuple [.int c, .int d]) = (decide (a = c) && decide (b = d)) := by
  simp [PyData.eqv, PyData.eqvAll]
  rfl
theorem eqv_pt (A D : EcZ.Pt) : PyData.eqv (dPt A) (dPt D) = decide (A = D) := by
  match A, D with
  | none, none => rfl
  | none, some (_, _) => rfl
  | some (_, _), none => rfl
  | some (x, y), some (z, w) =>
    show PyData.eqv (.tuple [.int x, .int y]) (.tuple [.int z, .int w]) = _
    rw [eqv_q2, Bool.eq_iff_iff, Bool.and_eq_true, decide_eq_true_iff, decide_eq_true_iff, decide_eq_true_iff]
    constructor
    · rintro ⟨rfl, rfl⟩
      rfl
    · intro h
      have h' := Option.some.inj h
      exact ⟨congrArg Prod.fst h', congrArg Prod.snd h'⟩
theorem eqv_pt0 (A : EcZ.Pt) : PyData.eqv (dPt A) (.tuple []) = decide (A = none) := eqv_pt A none
section
variable {P : Program} {w : World} {K : PySem.W.Frag} {mg : Str → Option Value} {base : Heap}
/-- digits ahead of a law's turn: the second number need not stand on the curve -/
def Dgp (p : Int) : EcZ.Pt → Prop
  | none => True
  | some (x, y) => Dg p x ∧ Dg p y
theorem _root_.EcZ.PtK.dgp {p : Int} {c : C5} {A : EcZ.Pt} (h : PtK p c A) : Dgp p A := by
  match A, h with
  | none, _ => trivial
  | some (x, y), h => exact ⟨h.1, h.2.1⟩
def sp_law_p_turned (K : PySem.W.Frag) : Sp := fun vs H Q _ => ∃ (p : Int) (c : C5) (ca a : Addr) (A : EcZ.Pt), vs = [.int p, .ref ca, .ref a] ∧ Okc p c ∧ SqT K H ca (cL c) ∧ HT K H a A ∧ Dgp p A ∧ ∀ H' t, Same H H' → HT K H' t (pneg p c A) → Q (.ref t) H'
abbrev s__law_p_turned : Stmt := topS 13
theorem sc__law_p_turned : FnScope ["p", "five", "point"] ["p", "five", "point"] (defScope s__law_p_turned) := ⟨rfl, rfl, rfl, by decide +kernel, rfl, by decide +kernel, by decide +kernel⟩
theorem k_law_p_turned (T : Tx K mg) (D : Df K mg "_law_p_turned" s__law_p_turned ["p", "five", "point"])  : Kl P w K mg base 1 "_law_p_turned" (sp_law_p_turned K) := by
  have nd := sc__law_p_turned.nd
  refine Kl.by_body D sc__law_p_turned (fun vs H Q E h => ?_) (fun f cdv A outer s H vs Q E hr h => ?_)
  · obtain ⟨_, _, _, _, _, rfl, _⟩ := h
    rfl
  · obtain ⟨p, c, ca, a, A, rfl, ok, hc, ha, kA, q⟩ := h
    have hu1 := hu_of hr
    refine ⟨_, (pss_cons (ps_if (pt_cmpR (op_eqD hr.units) (pv 2) (pe_tup pa_nil) (nomark _)) (pss_one (ps_ret (pe_tup pa_nil))) pss_nil)
      (pss_one (ps_ret (pe_tup (pa_cons (pe_ix ix_tup (pv 2) pe_int (fun _ _ => rfl)) (pa_cons (pe_op op_mod (pe_callTy call_intI (by rfl) T.int (by decide +kernel) (pa_cons (pe_op op_sub (pe_op op_sub (pe_un un_neg (pe_ix ix_tup (pv 2) pe_int (fun _ _ => rfl))) (pe_op op_mulW (pe_ix ix_tup (pv 1) pe_int (fun _ _ => rfl)) (pe_ix ix_tup (pv 2) pe_int (fun _ _ => rfl)))) (pe_ix ix_tup (pv 1) pe_int (fun _ _ => rfl))) pa_nil)) (pv 0)) pa_nil)))))), ?_⟩
    have hp0 := ok.p0
    refine ⟨_, rfl, (by show 0 ≤ sizeLine; decide), fun e ne => ?_⟩
    have s1 := Same.new (H := H) (p := e) (o := .tup []) ne
    have ge : upd H e (.tup []) e = some (.tup []) := upd_same
    generalize upd H e (.tup []) = H1 at s1 ge ⊢
    replace hc := Same.tup s1 hc
    replace ha := s1 _ _ ha
    refine ⟨dPt A, .tuple [], dpt ha, dp0 (tup_of ge), shp A, rfl, _, rfl, ?_⟩
    match A, ha, kA, q with
    | none, ha, kA, q =>
      refine iteY eq00 ?_
      exact ⟨(by show 0 ≤ sizeLine; decide), fun t nt => q _ t (s1.trans (Same.new nt)) upd_same⟩
    | some (x, y), ha, kA, q =>
      refine iteN (by rw [show dPt (some (x, y)) = .tuple [.int x, .int y] from rfl, eq20]; decide) ?_
      have hax : SqT K H1 a [.int x, .int y] := tup_of ha
      have xB := dgB ok.le kA.1
      have aB := dgB ok.le ok.d1
      refine ⟨_, rfl, a, _, 0, _, rfl, rfl, hax, rfl, _, rfl, a, _, 1, _, rfl, rfl, hax, rfl, _, rfl, _, rfl, ca, _, 0, _, rfl, rfl, hc, rfl, _, rfl, a, _, 0, _, rfl, rfl, hax, rfl, _, _, rfl, rfl, aB.mulW xB (by decide), _, _, rfl, rfl, _, rfl, ca, _, 2, _, rfl, rfl, hc, rfl, _, _, rfl, rfl, _, rfl, _, rfl, _, _, rfl, rfl, hp0, (by show 2 ≤ sizeLine; decide), fun t nt => ?_⟩
      exact q _ t (s1.trans (Same.new nt)) upd_same
def sp_law_p_sum (K : PySem.W.Frag) : Sp := fun vs H Q _ => ∃ (p : Int) (c : C5) (ca a b : Addr) (A A2 : EcZ.Pt), vs = [.int p, .ref ca, .ref a, .ref b] ∧ Okc p c ∧ SqT K H ca (cL c) ∧ HT K H a A ∧ HT K H b A2 ∧ PtK p c A ∧ PtK p c A2 ∧ ∀ H' t, Same H H' → HT K H' t (psum p c A A2) → Q (.ref t) H'
abbrev s__law_p_sum : Stmt := topS 14
theorem sc__law_p_sum : FnScope ["p", "five", "one", "two", "x", "y", "upper", "lower", "k", "far"] ["p", "five", "one", "two"] (defScope s__law_p_sum) := ⟨rfl, rfl, rfl, by decide +kernel, rfl, by decide +kernel, by decide +kernel⟩
theorem k_law_p_sum (T : Tx K mg) (D : Df K mg "_law_p_sum" s__law_p_sum ["p", "five", "one", "two"]) (c_law_p_turned : Kl P w K mg base 1 "_law_p_turned" (sp_law_p_turned K)) (c_law_inverse : Kl P w K mg base 1 "_law_inverse" (sp_law_inverse K)) : Kl P w K mg base 2 "_law_p_sum" (sp_law_p_sum K) := by
  have nd := sc__law_p_sum.nd
  refine Kl.by_body D sc__law_p_sum (fun vs H Q E h => ?_) (fun f cdv A outer s H vs Q E hr h => ?_)
  · obtain ⟨_, _, _, _, _, _, _, rfl, _⟩ := h
    rfl
  · obtain ⟨p, c, ca, a, b, A, A2, rfl, ok, hc, ha, hb, kA, kB, q⟩ := h
    have hu1 := hu_of hr
    refine ⟨_, (pss_cons (ps_if (PW.pt (pw_or (pt_cmpR (op_eqD hr.units) (pv 2) (pe_tup pa_nil) (nomark _)) (pw_or1 (pt_cmpR (op_eqD hr.units) (pv 3) (pe_tup pa_nil) (nomark _))))) (pss_one (ps_ret (pe_ifExp (pt_cmpR (op_eqD hr.units) (pv 2) (pe_tup pa_nil) (nomark _)) (pv 3) (pv 2)))) pss_nil)
      (pss_cons (ps_if (pt_cmpR (op_eqD hr.units) (pe_k c_law_p_turned  hr (by decide) (by rfl) (pa_cons (pv 0) (pa_cons (pv 1) (pa_cons (pv 2) pa_nil)))) (pv 3) (nomark _)) (pss_one (ps_ret (pe_tup pa_nil))) pss_nil)
      (pss_cons (ps_asg (pv 2) (pg_tup rfl (pgs_cons (pg_name (i := 4) nd rfl (by first | exact Or.inl rfl | exact Or.inr rfl)) (pgs_cons (pg_name (i := 5) nd rfl (by first | exact Or.inl rfl | exact Or.inr rfl)) pgs_nil))))
      (C8.pss_cut (ps_if (pt_cmpR (op_eqD hr.units) (pv 2) (pv 3) (nomark _)) (pss_cons (ps_set (i := 6) nd rfl (by first | exact Or.inl rfl | exact Or.inr rfl) (pe_op op_sub (pe_op op_add (pe_op op_add (pe_op op_mulW (pe_op op_mul pe_int (pv 4)) (pv 4)) (pe_op op_mulW (pe_op op_mul pe_int (pe_ix ix_tup (pv 1) pe_int (fun _ _ => rfl))) (pv 4))) (pe_ix ix_tup (pv 1) pe_int (fun _ _ => rfl))) (pe_op op_mulW (pe_ix ix_tup (pv 1) pe_int (fun _ _ => rfl)) (pv 5))))
      (pss_one (ps_set (i := 7) nd rfl (by first | exact Or.inl rfl | exact Or.inr rfl) (pe_op op_add (pe_op op_add (pe_op op_mul pe_int (pv 5)) (pe_op op_mulW (pe_ix ix_tup (pv 1) pe_int (fun _ _ => rfl)) (pv 4))) (pe_ix ix_tup (pv 1) pe_int (fun _ _ => rfl)))))) (pss_one (ps_par (i := 6) (j := 7) (by rfl) nd rfl rfl (by decide) rfl rfl (pa_cons (pe_op op_sub (pe_ix ix_tup (pv 3) pe_int (fun _ _ => rfl)) (pv 5)) (pa_cons (pe_op op_sub (pe_ix ix_tup (pv 3) pe_int (fun _ _ => rfl)) (pv 4)) pa_nil)) (by rfl))))
      (pss_cons (ps_set (i := 8) nd rfl (by first | exact Or.inl rfl | exact Or.inr rfl) (pe_op op_mod (pe_callTy call_intI (by rfl) T.int (by decide +kernel) (pa_cons (pe_op op_mulW (pv 6) (pe_k c_law_inverse  hr (by decide) (by rfl) (pa_cons (pv 7) (pa_cons (pv 0) pa_nil)))) pa_nil)) (pv 0)))
      (pss_cons (ps_set (i := 9) nd rfl (by first | exact Or.inl rfl | exact Or.inr rfl) (pe_op op_mod (pe_callTy call_intI (by rfl) T.int (by decide +kernel) (pa_cons (pe_op op_sub (pe_op op_sub (pe_op op_sub (pe_op op_add (pe_op op_mulW (pv 8) (pv 8)) (pe_op op_mulW (pe_ix ix_tup (pv 1) pe_int (fun _ _ => rfl)) (pv 8))) (pe_ix ix_tup (pv 1) pe_int (fun _ _ => rfl))) (pv 4)) (pe_ix ix_tup (pv 3) pe_int (fun _ _ => rfl))) pa_nil)) (pv 0)))
      (pss_one (ps_ret (pe_k c_law_p_turned  hr (by decide) (by rfl) (pa_cons (pv 0) (pa_cons (pv 1) (pa_cons (pe_tup (pa_cons (pv 9) (pa_cons (pe_op op_mod (pe_callTy call_intI (by rfl) T.int (by decide +kernel) (pa_cons (pe_op op_add (pv 5) (pe_op op_mulW (pv 8) (pe_op op_sub (pv 9) (pv 4)))) pa_nil)) (pv 0)) pa_nil))) pa_nil)))))))))))), ?_⟩
    have hp0 := ok.p0
    refine ⟨_, rfl, (by show 0 ≤ sizeLine; decide), fun e ne => ?_⟩
    have s1 := Same.new (H := H) (p := e) (o := .tup []) ne
    have ge : upd H e (.tup []) e = some (.tup []) := upd_same
    generalize upd H e (.tup []) = H1 at s1 ge ⊢
    replace hc := Same.tup s1 hc
    replace ha := s1 _ _ ha
    replace hb := s1 _ _ hb
    refine ⟨dPt A, .tuple [], dpt ha, dp0 (tup_of ge), shp A, rfl, _, rfl, ?_⟩
    rw [eqv_pt0]
    match A, ha, kA, q with
    | none, ha, kA, q =>
      refine iteY rfl ?_
      refine ⟨_, rfl, (by show 0 ≤ sizeLine; decide), fun e2 ne2 => ?_⟩
      have s2 := Same.new (H := H1) (p := e2) (o := .tup []) ne2
      have ge2 : upd H1 e2 (.tup []) e2 = some (.tup []) := upd_same
      generalize upd H1 e2 (.tup []) = H2 at s2 ge2 ⊢
      refine ⟨dPt none, .tuple [], dpt (A := none) (s2 _ _ ha), dp0 (tup_of ge2), rfl, rfl, _, rfl, iteT ?_⟩
      exact ⟨_, rfl, q _ b (s1.trans s2) (s2 _ _ hb)⟩
    | some (x, y), ha, kA, q =>
      refine iteN (by simp) ?_
      refine ⟨_, rfl, (by show 0 ≤ sizeLine; decide), fun e2 ne2 => ?_⟩
      have s2 := Same.new (H := H1) (p := e2) (o := .tup []) ne2
      have ge2 : upd H1 e2 (.tup []) e2 = some (.tup []) := upd_same
      generalize upd H1 e2 (.tup []) = H2 at s2 ge2 ⊢
      replace hc := Same.tup s2 hc
      replace ha := s2 _ _ ha
      replace hb := s2 _ _ hb
      refine ⟨dPt A2, .tuple [], dpt hb, dp0 (tup_of ge2), shp A2, rfl, _, rfl, ?_⟩
      rw [eqv_pt0]
      match A2, hb, kB, q with
      | none, hb, kB, q =>
        refine iteY rfl ?_
        refine ⟨_, rfl, (by show 0 ≤ sizeLine; decide), fun e3 ne3 => ?_⟩
        have s3 := Same.new (H := H2) (p := e3) (o := .tup []) ne3
        have ge3 : upd H2 e3 (.tup []) e3 = some (.tup []) := upd_same
        generalize upd H2 e3 (.tup []) = H3 at s3 ge3 ⊢
        refine ⟨dPt (some (x, y)), .tuple [], dpt (A := some (x, y)) (s3 _ _ ha), dp0 (tup_of ge3), rfl, rfl, _, rfl, iteF ?_⟩
        exact ⟨_, rfl, q _ a (s1.trans (s2.trans s3)) (s3 _ _ ha)⟩
      | some (z, w), hb, kB, q =>
        refine iteN (by simp) ?_
        have sA := s1.trans s2
        refine ⟨_, rfl, _, rfl, _, rfl, p, c, ca, a, some (x, y), rfl, ok, hc, ha, kA.dgp, fun H3 e3 s3 h3 => ?_⟩
        replace hc := Same.tup s3 hc
        replace ha := s3 _ _ ha
        have hax : SqT K H3 a [.int x, .int y] := tup_of ha
        replace hb := s3 _ _ hb
        have hbx : SqT K H3 b [.int z, .int w] := tup_of hb
        refine ⟨_, rfl, dPt (pneg p c (some (x, y))), dPt (some (z, w)), dpt h3, dpt (A := some (z, w)) hb, shp _, shp _, _, rfl, ?_⟩
        rw [eqv_pt]
        by_cases hop : z = x ∧ w = (-y - c.a1 * x - c.a3) % p
        · refine iteY (decide_eq_true (by rw [pneg_some, hop.1, ← hop.2])) ?_
          refine ⟨(by show 0 ≤ sizeLine; decide), fun t nt => q _ t (sA.trans (s3.trans (Same.new nt))) ?_⟩
          rw [psum_opp hop.1 hop.2]
          exact upd_same
        refine iteN (fun h => hop (by
          have h1 := Option.some.inj (of_decide_eq_true h)
          exact ⟨(congrArg Prod.fst h1).symm, (congrArg Prod.snd h1).symm⟩)) ?_
        have xB := dgB ok.le kA.1
        have yB := dgB ok.le kA.2.1
        have zB := dgB ok.le kB.1
        have wB := dgB ok.le kB.2.1
        have aB := dgB ok.le ok.d1
        have a2B := dgB ok.le ok.d2
        have a4B := dgB ok.le ok.d4
        have a3B := dgB ok.le ok.d3
        have pB : B 300 p := by
          have := ok.le
          unfold Gd.B
          omega
        have l2 : B 2 (2 : Int) := B.lit (by decide)
        have l3 : B 2 (3 : Int) := B.lit (by decide)
        refine ⟨_, rfl, a, _, rfl, hax, rfl, _, _, rfl, _, _, rfl, rfl, ?_⟩
        first | refine sigN [some (.int (p)), some (.ref ca), some (.ref a), some (.ref b), some (.int (x)), some (.int (y)), none, none, none, none] (by rfl) ?_ | refine sig [some (.int (p)), some (.ref ca), some (.ref a), some (.ref b), some (.int (x)), some (.int (y)), none, none, none, none] (by rfl) ?_
        refine ⟨fun σ' H' => H' = H3 ∧ ∃ upper lower : Int, σ' = [some (.int p), some (.ref ca), some (.ref a), some (.ref b), some (.int x), some (.int y), some (.int upper), some (.int lower), none, none] ∧ B 40 upper ∧ ¬Mo p lower 0 ∧ (∀ r, Inv p lower r → psum p c (some (x, y)) (some (z, w)) = some (far p c (upper * r) x y z)), ?_, ?_⟩
        · refine ⟨_, rfl, _, rfl, dPt (some (x, y)), dPt (some (z, w)), dpt (A := some (x, y)) ha, dpt (A := some (z, w)) hb, shp _, shp _, _, rfl, ?_⟩
          rw [eqv_pt]
          by_cases he : x = z ∧ y = w
          · obtain ⟨rfl, rfl⟩ := he
            refine iteY (decide_eq_true rfl) ?_
            have hn : ¬(y = (-y - c.a1 * x - c.a3) % p) := fun g => hop ⟨rfl, g⟩
            have hu := dbl_unit hp0 kB.2.1 hn
            refine ⟨_, rfl, _, _, rfl, rfl, (Or.inl ⟨by decide, by decide⟩), _, rfl, _, _, rfl, rfl, (l3.mul xB).mulW xB (by decide), _, rfl, ca, _, 1, _, rfl, rfl, hc, rfl, _, _, rfl, rfl, (Or.inl ⟨by decide, by decide⟩), _, rfl, _, _, rfl, rfl, (l2.mul a2B).mulW xB (by decide), _, _, rfl, rfl, _, rfl, ca, _, 3, _, rfl, rfl, hc, rfl, _, _, rfl, rfl, _, rfl, ca, _, 0, _, rfl, rfl, hc, rfl, _, rfl, _, _, rfl, rfl, aB.mulW yB (by decide), _, _, rfl, rfl, ?_⟩
            first | refine sigN [some (.int (p)), some (.ref ca), some (.ref a), some (.ref b), some (.int (x)), some (.int (y)), some (.int (3 * x * x + 2 * c.a2 * x + c.a4 - c.a1 * y)), none, none, none] (by rfl) ?_ | refine sig [some (.int (p)), some (.ref ca), some (.ref a), some (.ref b), some (.int (x)), some (.int (y)), some (.int (3 * x * x + 2 * c.a2 * x + c.a4 - c.a1 * y)), none, none, none] (by rfl) ?_
            refine ⟨_, rfl, _, _, rfl, rfl, (Or.inl ⟨by decide, by decide⟩), _, rfl, ca, _, 0, _, rfl, rfl, hc, rfl, _, rfl, _, _, rfl, rfl, aB.mulW xB (by decide), _, _, rfl, rfl, _, rfl, ca, _, 2, _, rfl, rfl, hc, rfl, _, _, rfl, rfl, ?_⟩
            exact ⟨rfl, _, _, rfl, (((((l3.mul xB).mul xB).add ((l2.mul a2B).mul xB)).add a4B).sub (aB.mul yB)).up (by decide), hu, fun r hr => psum_dbl hn hr⟩
          · refine iteN (fun h => he (by
              have h1 := Option.some.inj (of_decide_eq_true h)
              exact ⟨congrArg Prod.fst h1, congrArg Prod.snd h1⟩)) ?_
            have hx : x ≠ z := fun e => by
              subst e
              exact he ⟨rfl, (same_y ok.pp kA kB (fun g => hop ⟨rfl, g⟩)).symm⟩
            have hu := diff_unit ok.pp kA.1 kB.1 hx
            refine ⟨_, rfl, b, _, 1, _, rfl, rfl, hbx, rfl, _, rfl, _, _, rfl, rfl, _, rfl, b, _, 0, _, rfl, rfl, hbx, rfl, _, rfl, _, _, rfl, rfl, _, _, rfl, ?_⟩
            exact ⟨rfl, _, _, rfl, (wB.sub yB).up (by decide), hu, fun r hr => psum_diff hx hr⟩
        rintro σ' H' ⟨rfl, upper, lower, rfl, uB, hu, hs⟩
        refine ⟨_, rfl, _, rfl, _, rfl, lower, p, rfl, ok.p1, pB, unit_gcd ok.pp hu, fun H4 r s4 hr2 => ?_⟩
        replace hs := hs r hr2
        replace hc := Same.tup s4 hc
        replace hbx := Same.tup s4 hbx
        have rB := dgB ok.le hr2.1
        refine ⟨_, _, rfl, rfl, uB.mulW rB (by decide), _, rfl, _, rfl, _, _, rfl, rfl, hp0, ?_⟩
        obtain ⟨k, hk⟩ : ∃ k, upper * r = k := ⟨_, rfl⟩
        first | refine sigN [some (.int (p)), some (.ref ca), some (.ref a), some (.ref b), some (.int (x)), some (.int (y)), some (.int (upper)), some (.int (lower)), some (.int ((upper * r) % p)), none] (by rfl) ?_ | refine sig [some (.int (p)), some (.ref ca), some (.ref a), some (.ref b), some (.int (x)), some (.int (y)), some (.int (upper)), some (.int (lower)), some (.int ((upper * r) % p)), none] (by rfl) ?_
        rw [hk] at hs ⊢
        have kB : B 6 (k % p) := dgB ok.le (Dg.mod hp0)
        refine ⟨_, rfl, _, rfl, _, _, rfl, rfl, kB.mulW kB (by decide), _, rfl, ca, _, 0, _, rfl, rfl, hc, rfl, _, rfl, _, _, rfl, rfl, aB.mulW kB (by decide), _, _, rfl, rfl, _, rfl, ca, _, 1, _, rfl, rfl, hc, rfl, _, _, rfl, rfl, _, rfl, _, _, rfl, rfl, _, rfl, b, _, 0, _, rfl, rfl, hbx, rfl, _, _, rfl, rfl, _, rfl, _, rfl, _, _, rfl, rfl, hp0, ?_⟩
        first | refine sigN [some (.int (p)), some (.ref ca), some (.ref a), some (.ref b), some (.int (x)), some (.int (y)), some (.int (upper)), some (.int (lower)), some (.int (k % p)), some (.int ((k % p * (k % p) + c.a1 * (k % p) - c.a2 - x - z) % p))] (by rfl) ?_ | refine sig [some (.int (p)), some (.ref ca), some (.ref a), some (.ref b), some (.int (x)), some (.int (y)), some (.int (upper)), some (.int (lower)), some (.int (k % p)), some (.int ((k % p * (k % p) + c.a1 * (k % p) - c.a2 - x - z) % p))] (by rfl) ?_
        obtain ⟨X, hX⟩ : ∃ X, (k % p * (k % p) + c.a1 * (k % p) - c.a2 - x - z) % p = X := ⟨_, rfl⟩
        have e := far_law (y := y) hX
        have dX : Dg p X := hX ▸ Dg.mod hp0
        have XB := dgB ok.le dX
        rw [hX]
        refine ⟨_, rfl, _, rfl, _, rfl, _, rfl, _, rfl, _, rfl, _, rfl, _, _, rfl, rfl, _, _, rfl, rfl, kB.mulW (XB.sub xB) (by decide), _, _, rfl, rfl, _, rfl, _, rfl, _, _, rfl, rfl, hp0, (by show 2 ≤ sizeLine; decide), fun t nt => ?_⟩
        have s5 := Same.new (H := H4) (p := t) (o := .tup [.int X, .int ((y + k % p * (X - x)) % p)]) nt
        have g5 : upd H4 t (.tup [.int X, .int ((y + k % p * (X - x)) % p)]) t = some (.tup [.int X, .int ((y + k % p * (X - x)) % p)]) := upd_same
        generalize upd H4 t (.tup [.int X, .int ((y + k % p * (X - x)) % p)]) = H5 at s5 g5 ⊢
        refine ⟨p, c, ca, t, some (X, (y + k % p * (X - x)) % p), rfl, ok, Same.tup s5 hc, g5, ⟨dX, Dg.mod hp0⟩, fun H6 t2 s6 h6 => ?_⟩
        refine q _ t2 (sA.trans (s3.trans (s4.trans (s5.trans s6)))) ?_
        rw [hs, e]
        exact h6
end
end K41
set_option Elab.async false
set_option linter.all false
set_option maxRecDepth 100000
set_option maxHeartbeats 4000000
namespace K41
open PySem PySem.Spec PyProof.Rows L2 Gd QM K45M EcZ
local macro_rules | `(tactic| walk_at "bd") => `(tactic| (repeat (first | assumption | apply B.add | apply B.sub | apply B.mul | apply B.neg | exact B.lit (n := 8) (by decide))))
local macro_rules | `(tactic| walk_at "bnd") => `(tactic| (apply B.mulW; walk_at "bd"; decide))
local macro_rules | `(tactic| walk_at "pw") => `(tactic| exact B.up (n := 64) (by assumption) (by decide))
theorem on_of {p : Int} {c : C5} {x y : Int} (h : (y * (y + c.a1 * x + c.a3) - (x ^ 3 + c.a2 * x * x + c.a4 * x + c.a6)) % p = 0) : EcF.On (c.q p) (EcZ.q p x) (EcZ.q p y) := by
  have h1 : Mo p (y * y + c.a1 * x * y + c.a3 * y) (x * x * x + c.a2 * x * x + c.a4 * x + c.a6) := by
    rw [Mo.iff_dvd]
    have h2 := Int.dvd_of_emod_eq_zero h
    rw [show y * y + c.a1 * x * y + c.a3 * y - (x * x * x + c.a2 * x * x + c.a4 * x + c.a6) = y * (y + c.a1 * x + c.a3) - (x ^ 3 + c.a2 * x * x + c.a4 * x + c.a6) by grind]
    exact h2
  exact q_eq.mpr h1
theorem on_to {p : Int} {c : C5} {x y : Int} (h : EcF.On (c.q p) (EcZ.q p x) (EcZ.q p y)) : (y * (y + c.a1 * x + c.a3) - (x ^ 3 + c.a2 * x * x + c.a4 * x + c.a6)) % p = 0 := by
  have h1 : Mo p (y * y + c.a1 * x * y + c.a3 * y) (x * x * x + c.a2 * x * x + c.a4 * x + c.a6) := q_eq.mp h
  rw [Mo.iff_dvd] at h1
  refine Int.emod_eq_zero_of_dvd ?_
  rw [show y * (y + c.a1 * x + c.a3) - (x ^ 3 + c.a2 * x * x + c.a4 * x + c.a6) = y * y + c.a1 * x * y + c.a3 * y - (x * x * x + c.a2 * x * x + c.a4 * x + c.a6) by grind]
  exact h1
/-- points stand at these -/
def PsAt (K : PySem.W.Frag) (H : Hp) (p : Int) (c : C5) (bs : List Addr) : Prop := ∀ b ∈ bs, ∃ A, HT K H b A ∧ PtK p c A
theorem PsAt.same {K : PySem.W.Frag} {H H' : Hp} {p : Int} {c : C5} {bs : List Addr} (h : PsAt K H p c bs) (s : Same H H') : PsAt K H' p c bs := fun b hb => by
  obtain ⟨A, h1, h2⟩ := h b hb
  exact ⟨A, s _ _ h1, h2⟩
/-- these points, one by one -/
abbrev PA (K : PySem.W.Frag) (H : Hp) (bs : List Addr) (As : List EcZ.Pt) : Prop := Paired (fun b A => HT K H b A) bs As
theorem PA.same {K : PySem.W.Frag} {H H' : Hp} {bs : List Addr} {As : List EcZ.Pt} (h : PA K H bs As) (s : Same H H') : PA K H' bs As := Paired.mapP h fun _ _ z => s _ _ z
theorem PA.put {K : PySem.W.Frag} {H : Hp} {bs : List Addr} {As : List EcZ.Pt} {D : Addr} {L : List V} {o : HO} (h : PA K H bs As) (hD : H D = some (.lst L)) : PA K (upd H D o) bs As := Paired.mapP h fun b A z => by
  show upd H D o b = _
  rw [upd_ne (ne_of z hD (by intro z; cases z))]
  exact z
theorem PA.app {K : PySem.W.Frag} {H : Hp} : ∀ {bs cs : List Addr} {As Bs : List EcZ.Pt}, PA K H bs As → PA K H cs Bs → PA K H (bs ++ cs) (As ++ Bs)
  | _, _, _, _, .nil, k => k
  | _, _, _, _, .cons h t, k => .cons h (PA.app t k)
theorem PA.get {K : PySem.W.Frag} {H : Hp} : ∀ {bs : List Addr} {As : List EcZ.Pt} {b : Addr}, PA K H bs As → b ∈ bs → ∃ A ∈ As, HT K H b A
  | _, _, b, .cons h t, hb => by
    rcases List.mem_cons.mp hb with e | hb
    · subst e
      exact ⟨_, List.mem_cons_self, h⟩
    · obtain ⟨A, h1, h2⟩ := PA.get t hb
      exact ⟨A, List.mem_cons_of_mem _ h1, h2⟩
theorem PA.find {K : PySem.W.Frag} {H : Hp} : ∀ {bs : List Addr} {As : List EcZ.Pt} {A : EcZ.Pt}, PA K H bs As → A ∈ As → ∃ b ∈ bs, HT K H b A
  | _, _, A, .cons h t, hb => by
    rcases List.mem_cons.mp hb with e | hb
    · subst e
      exact ⟨_, List.mem_cons_self, h⟩
    · obtain ⟨A, h1, h2⟩ := PA.find t hb
      exact ⟨A, List.mem_cons_of_mem _ h1, h2⟩
def isPt (p : Int) (c : C5) (x y : Int) : Bool := decide ((y * (y + c.a1 * x + c.a3) - (x ^ 3 + c.a2 * x * x + c.a4 * x + c.a6)) % p = 0)
def rowP (p : Int) (c : C5) (x : Int) (n : Nat) : List EcZ.Pt := ((List.range n).filter fun (j : Nat) => isPt p c x (j : Int)).map fun (j : Nat) => some (x, (j : Int))
def allN (p : Int) (c : C5) (n : Nat) : List EcZ.Pt := none :: (List.range n).flatMap fun (i : Nat) => rowP p c (i : Int) p.toNat
def allP (p : Int) (c : C5) : List EcZ.Pt := allN p c p.toNat
section
variable {p : Int} {c : C5}
theorem rowP_yes {x : Int} {n : Nat} (h : isPt p c x (n : Int) = true) : rowP p c x (n + 1) = rowP p c x n ++ [some (x, (n : Int))] := by
  unfold rowP
  rw [List.range_succ, List.filter_append, List.map_append, show List.filter (fun (j : Nat) => isPt p c x (j : Int)) [n] = [n] by simp [h]]
  rfl
theorem rowP_no {x : Int} {n : Nat} (h : isPt p c x (n : Int) = false) : rowP p c x (n + 1) = rowP p c x n := by
  unfold rowP
  rw [List.range_succ, List.filter_append, List.map_append, show List.filter (fun (j : Nat) => isPt p c x (j : Int)) [n] = [] by simp [h], List.map_nil, List.append_nil]
theorem rowP_len {x : Int} {n : Nat} : (rowP p c x n).length ≤ n := by
  unfold rowP
  rw [List.length_map]
  refine Nat.le_trans (List.length_filter_le ..) ?_
  rw [List.length_range]
  exact Nat.le_refl _
theorem allN_succ {n : Nat} : allN p c (n + 1) = allN p c n ++ rowP p c (n : Int) p.toNat := by
  unfold allN
  rw [List.range_succ, List.flatMap_append, List.flatMap_cons, List.flatMap_nil, List.append_nil]
  rfl
theorem allN_len (h : p ≤ 31) : ∀ n, (allN p c n).length ≤ 1 + n * 31
  | 0 => Nat.le_refl _
  | n + 1 => by
    rw [allN_succ, List.length_append]
    have h1 := allN_len h n
    have h2 := rowP_len (p := p) (c := c) (x := (n : Int)) (n := p.toNat)
    omega
theorem mem_all (ok : Okc p c) {A : EcZ.Pt} : A ∈ allP p c ↔ PtK p c A := by
  unfold allP allN
  rw [List.mem_cons]
  constructor
  · rintro (rfl | h)
    · trivial
    · obtain ⟨i, hi, h⟩ := List.mem_flatMap.mp h
      unfold rowP at h
      obtain ⟨j, hj, rfl⟩ := List.mem_map.mp h
      obtain ⟨h1, h2⟩ := List.mem_filter.mp hj
      have h3 := List.mem_range.mp h1
      have h4 := List.mem_range.mp hi
      exact ⟨⟨by omega, by omega⟩, ⟨by omega, by omega⟩, on_of (of_decide_eq_true h2)⟩
  · intro h
    match A, h with
    | none, _ => exact .inl rfl
    | some (x, y), h =>
      obtain ⟨h1, h2, h3⟩ := h
      unfold Dg at h1 h2
      refine .inr (List.mem_flatMap.mpr ⟨x.toNat, List.mem_range.mpr (by omega), ?_⟩)
      unfold rowP
      refine List.mem_map.mpr ⟨y.toNat, List.mem_filter.mpr ⟨List.mem_range.mpr (by omega), ?_⟩, ?_⟩
      · rw [show ((x.toNat : Nat) : Int) = x by omega, show ((y.toNat : Nat) : Int) = y by omega]
        exact decide_eq_true (on_to h3)
      · rw [show ((x.toNat : Nat) : Int) = x by omega, show ((y.toNat : Nat) : Int) = y by omega]
theorem tail_some (ok : Okc p c) {A : EcZ.Pt} (h : A ∈ (allP p c).tail) : ∃ x y, A = some (x, y) ∧ PtK p c A := by
  have h2 : A ∈ allP p c := List.mem_of_mem_tail h
  unfold allP allN at h
  rw [List.tail_cons] at h
  obtain ⟨i, hi, h⟩ := List.mem_flatMap.mp h
  unfold rowP at h
  obtain ⟨j, hj, rfl⟩ := List.mem_map.mp h
  exact ⟨_, _, rfl, (mem_all ok).mp h2⟩
theorem PA.ps {K : PySem.W.Frag} {H : Hp} {bs : List Addr} (ok : Okc p c) (h : PA K H bs (allP p c)) : PsAt K H p c bs := fun b hb => by
  obtain ⟨A, h1, h2⟩ := h.get hb
  exact ⟨A, h2, (mem_all ok).mp h1⟩
end
section
variable {P : Program} {w : World} {K : PySem.W.Frag} {mg : Str → Option Value} {base : Heap}
def sp_law_p_points (K : PySem.W.Frag) : Sp := fun vs H Q _ => ∃ (p : Int) (c : C5) (ca : Addr), vs = [.int p, .ref ca] ∧ Okc p c ∧ SqT K H ca (cL c) ∧ ∀ H' t bs, Same H H' → H' t = some (.lst (bs.map V.ref)) → PA K H' bs (allP p c) → bs.length ≤ 1000 → Q (.ref t) H'
abbrev s__law_p_points : Stmt := topS 15
theorem sc__law_p_points : FnScope ["p", "five", "a1", "a2", "a3", "a4", "a6", "found", "x", "side", "y"] ["p", "five"] (defScope s__law_p_points) := ⟨rfl, rfl, rfl, by decide +kernel, rfl, by decide +kernel, by decide +kernel⟩
theorem k_law_p_points (T : Tx K mg) (D : Df K mg "_law_p_points" s__law_p_points ["p", "five"])  : Kl P w K mg base 1 "_law_p_points" (sp_law_p_points K) := by
  have nd := sc__law_p_points.nd
  refine Kl.by_body D sc__law_p_points (fun vs H Q E h => ?_) (fun f cdv A outer s H vs Q E hr h => ?_)
  · obtain ⟨_, _, _, rfl, _⟩ := h
    rfl
  · obtain ⟨p, c, ca, rfl, ok, hc, q⟩ := h
    have hu1 := hu_of hr
    refine ⟨_, (pss_cons (ps_asg (pv 1) (pg_tup rfl (pgs_cons (pg_name (i := 2) nd rfl (by first | exact Or.inl rfl | exact Or.inr rfl)) (pgs_cons (pg_name (i := 3) nd rfl (by first | exact Or.inl rfl | exact Or.inr rfl)) (pgs_cons (pg_name (i := 4) nd rfl (by first | exact Or.inl rfl | exact Or.inr rfl)) (pgs_cons (pg_name (i := 5) nd rfl (by first | exact Or.inl rfl | exact Or.inr rfl)) (pgs_cons (pg_name (i := 6) nd rfl (by first | exact Or.inl rfl | exact Or.inr rfl)) pgs_nil)))))))
      (pss_cons (ps_set (i := 7) nd rfl (by first | exact Or.inl rfl | exact Or.inr rfl) (pe_lst (pa_cons (pe_tup pa_nil) pa_nil)))
      (pss_cons (ps_for PassesOwn.never rfl (pi_range1 (by rfl) T.range (pa_cons (pv 0) pa_nil)) (pg_name (i := 8) nd rfl (by first | exact Or.inl rfl | exact Or.inr rfl)) (pss_cons (ps_set (i := 9) nd rfl (by first | exact Or.inl rfl | exact Or.inr rfl) (pe_op op_add (pe_op op_add (pe_op op_add (pe_op op_pow (pv 8) pe_int) (pe_op op_mulW (pe_op op_mulW (pv 3) (pv 8)) (pv 8))) (pe_op op_mulW (pv 5) (pv 8))) (pv 6)))
      (pss_one (ps_set (i := 7) nd rfl (by first | exact Or.inl rfl | exact Or.inr rfl) (pe_op op_cat (pv 7) (pe_lc (own := [("y", 10)]) (g := gName 10) rfl nd (pi_range1 (by rfl) T.range (pa_cons (pv 0) pa_nil)) (blkOk_by (N := ["p", "five", "a1", "a2", "a3", "a4", "a6", "found", "x", "side", "y"]) (sc := defScope s__law_p_points) (by decide +kernel)) (fun _ _ _ _ _ => (pg_name (i := 10) nd rfl (by first | exact Or.inl rfl | exact Or.inr rfl))) (fun _ _ _ _ _ => (pts_one (pt_cmpR op_eq (pe_op op_mod (pe_callTy call_intI (by rfl) T.int (by decide +kernel) (pa_cons (pe_op op_sub (pe_op op_mulW (pv 10) (pe_op op_add (pe_op op_add (pv 10) (pe_op op_mulW (pv 2) (pv 8))) (pv 4))) (pv 9)) pa_nil)) (pv 0)) pe_int (nomark _)))) (fun _ _ _ _ _ => (pe_tup (pa_cons (pv 8) (pa_cons (pv 10) pa_nil))))))))))
      (pss_one (ps_ret (pv 7)))))), ?_⟩
    have hp0 := ok.p0
    have hp9 := ok.le
    have aB := dgB ok.le ok.d1
    have a2B := dgB ok.le ok.d2
    have a3B := dgB ok.le ok.d3
    have a4B := dgB ok.le ok.d4
    refine ⟨_, rfl, ca, _, rfl, hc, rfl, _, _, rfl, _, _, rfl, _, _, rfl, _, _, rfl, _, _, rfl, rfl, ?_⟩
    first | refine sigN [some (.int (p)), some (.ref ca), some (.int (c.a1)), some (.int (c.a2)), some (.int (c.a3)), some (.int (c.a4)), some (.int (c.a6)), none, none, none, none] (by rfl) ?_ | refine sig [some (.int (p)), some (.ref ca), some (.int (c.a1)), some (.int (c.a2)), some (.int (c.a3)), some (.int (c.a4)), some (.int (c.a6)), none, none, none, none] (by rfl) ?_
    refine ⟨(by show 0 ≤ sizeLine; decide), fun e ne => ?_⟩
    have s1 := Same.new (H := H) (p := e) (o := .tup []) ne
    have ge : upd H e (.tup []) e = some (.tup []) := upd_same
    generalize upd H e (.tup []) = H1 at s1 ge ⊢
    refine ⟨(by show 1 ≤ sizeLine; decide), fun f nf => ?_⟩
    have s2 := Same.new (H := H1) (p := f) (o := .lst [.ref e]) nf
    have gf : upd H1 f (.lst [.ref e]) f = some (.lst [.ref e]) := upd_same
    generalize upd H1 f (.lst [.ref e]) = H2 at s2 gf ⊢
    first | refine sigN [some (.int (p)), some (.ref ca), some (.int (c.a1)), some (.int (c.a2)), some (.int (c.a3)), some (.int (c.a4)), some (.int (c.a6)), some (.ref f), none, none, none] (by rfl) ?_ | refine sig [some (.int (p)), some (.ref ca), some (.int (c.a1)), some (.int (c.a2)), some (.int (c.a3)), some (.int (c.a4)), some (.int (c.a6)), some (.ref f), none, none, none] (by rfl) ?_
    have P0 : PA K H2 [e] (allN p c 0) := .cons (s2 _ _ ge : HT K H2 e none) .nil
    refine ⟨_, rfl, p, rfl, by omega, by omega, for_range (lo := 0) (n := p.toNat) (fun i σ H3 => Same H2 H3 ∧ ∃ (f : Addr) (bs : List Addr) (v1 v2 v3 : Option V), σ = [some (.int p), some (.ref ca), some (.int c.a1), some (.int c.a2), some (.int c.a3), some (.int c.a4), some (.int c.a6), some (.ref f), v1, v2, v3] ∧ H3 f = some (.lst (bs.map V.ref)) ∧ PA K H3 bs (allN p c i)) ⟨Same.refl _, f, [e], none, none, none, rfl, gf, P0⟩ ?_ ?_⟩
    · rintro i σ H3 hi ⟨s3, f, bs, v1, v2, v3, rfl, gf3, P3⟩
      obtain ⟨x, hx⟩ : ∃ x : Int, (0 : Int) + (i : Int) = x := ⟨_, rfl⟩
      have dx : Dg p x := by
        unfold Dg
        omega
      have xB := dgB hp9 dx
      have p3 : B 64 (x ^ (3 : Int).toNat) := (xB.pow 3).up (by decide)
      rw [hx]
      first | refine sigN [some (.int (p)), some (.ref ca), some (.int (c.a1)), some (.int (c.a2)), some (.int (c.a3)), some (.int (c.a4)), some (.int (c.a6)), some (.ref f), some (.int (x)), v2, v3] (by rfl) ?_ | refine sig [some (.int (p)), some (.ref ca), some (.int (c.a1)), some (.int (c.a2)), some (.int (c.a3)), some (.int (c.a4)), some (.int (c.a6)), some (.ref f), some (.int (x)), v2, v3] (by rfl) ?_
      refine ⟨_, rfl, _, _, rfl, rfl, ⟨by decide, by decide, by walk_at "pw"⟩, _, rfl, _, rfl, _, _, rfl, rfl, (by walk_at "bnd"), _, rfl, _, _, rfl, rfl, (by walk_at "bnd"), _, _, rfl, rfl, _, rfl, _, rfl, _, _, rfl, rfl, (by walk_at "bnd"), _, _, rfl, rfl, _, rfl, _, _, rfl, rfl, ?_⟩
      first | refine sigN [some (.int (p)), some (.ref ca), some (.int (c.a1)), some (.int (c.a2)), some (.int (c.a3)), some (.int (c.a4)), some (.int (c.a6)), some (.ref f), some (.int (x)), some (.int (x ^ 3 + c.a2 * x * x + c.a4 * x + c.a6)), v3] (by rfl) ?_ | refine sig [some (.int (p)), some (.ref ca), some (.int (c.a1)), some (.int (c.a2)), some (.int (c.a3)), some (.int (c.a4)), some (.int (c.a6)), some (.ref f), some (.int (x)), some (.int (x ^ 3 + c.a2 * x * x + c.a4 * x + c.a6)), v3] (by rfl) ?_
      refine ⟨_, rfl, _, rfl, p, rfl, by omega, by omega, fun D nD => ?_⟩
      refine lc_range (lo := 0) (n := p.toNat) (fun j H4 => Same H3 H4 ∧ ∃ cs : List Addr, H4 D = some (.lst (cs.map V.ref)) ∧ PA K H4 cs (rowP p c x j)) ⟨Same.new nD, [], upd_same, .nil⟩ (fun j H4 hj z => ?_) (fun H4 z => ?_)
      · obtain ⟨s4, cs, g4, P4⟩ := z
        have l4 : cs.length ≤ j := Paired.length P4 ▸ rowP_len
        obtain ⟨y, hy⟩ : ∃ y : Int, (0 : Int) + (j : Int) = y := ⟨_, rfl⟩
        have dy : Dg p y := by
          unfold Dg
          omega
        have yB := dgB hp9 dy
        rw [hy]
        refine ⟨rfl, _, rfl, _, rfl, _, rfl, _, rfl, _, _, rfl, rfl, aB.mulW xB (by decide), _, _, rfl, rfl, _, rfl, _, _, rfl, rfl, _, _, rfl, rfl, yB.mulW ((yB.add (aB.mul xB)).add a3B) (by decide), _, rfl, _, _, rfl, rfl, _, rfl, _, rfl, _, _, rfl, rfl, hp0, rfl, _, rfl, ?_⟩
        rw [dec_int]
        by_cases h0 : (y * (y + c.a1 * x + c.a3) - (x ^ 3 + c.a2 * x * x + c.a4 * x + c.a6)) % p = 0
        · refine iteY (by simpa using h0) ?_
          refine ⟨_, rfl, _, rfl, (by show 2 ≤ sizeLine; decide), fun t nt => ?_⟩
          have s5 := Same.new (H := H4) (p := t) (o := .tup [.int x, .int y]) nt
          have g5 : upd H4 t (.tup [.int x, .int y]) t = some (.tup [.int x, .int y]) := upd_same
          generalize upd H4 t (.tup [.int x, .int y]) = H5 at s5 g5 ⊢
          have gD := s5 _ _ g4
          refine ⟨_, gD, ?_, ?_⟩
          · rw [List.length_map]
            exact small1000 (by omega)
          · refine ⟨Same.put (s4.trans s5) nD, cs ++ [t], ?_, ?_⟩
            · rw [upd_same, List.map_append]
              rfl
            · rw [rowP_yes (by rw [show ((j : Nat) : Int) = y by omega]; exact decide_eq_true h0), show ((j : Nat) : Int) = y by omega]
              exact ((P4.same s5).put gD).app (.cons (by show upd H5 D _ t = _; rw [upd_ne (ne_of g5 gD (by intro z; cases z))]; exact g5) .nil)
        · refine iteN (by simpa using h0) ?_
          exact ⟨s4, cs, g4, by rw [rowP_no (by rw [show ((j : Nat) : Int) = y by omega]; exact decide_eq_false h0)]; exact P4⟩
      · obtain ⟨s4, cs, g4, P4⟩ := z
        have l4 : cs.length ≤ p.toNat := Paired.length P4 ▸ rowP_len
        refine ⟨f, D, _, _, rfl, rfl, s4 _ _ gf3, g4, ?_, fun r nr => ?_⟩
        · rw [List.length_map, List.length_map]
          have := Paired.length P3
          have := allN_len (c := c) hp9 i
          exact small (by omega)
        rw [← List.map_append]
        have s5 := Same.new (H := H4) (p := r) (o := .lst ((bs ++ cs).map V.ref)) nr
        have g5 : upd H4 r (.lst ((bs ++ cs).map V.ref)) r = some (.lst ((bs ++ cs).map V.ref)) := upd_same
        generalize upd H4 r (.lst ((bs ++ cs).map V.ref)) = H5 at s5 g5 ⊢
        refine ⟨s3.trans (s4.trans s5), r, bs ++ cs, _, _, _, rfl, g5, ?_⟩
        rw [allN_succ, show ((i : Nat) : Int) = x by omega]
        exact ((P3.same s4).app P4).same s5
    · rintro σ H3 ⟨s3, f, bs, v1, v2, v3, rfl, gf3, P3⟩
      have := Paired.length P3
      have := allN_len (c := c) hp9 p.toNat
      exact ⟨_, rfl, q _ f bs (s1.trans (s2.trans s3)) gf3 P3 (by omega)⟩
end
end K41
set_option Elab.async false
set_option linter.all false
set_option maxRecDepth 100000
set_option maxHeartbeats 4000000
namespace K41
open PySem PySem.Spec PyProof.Rows L2 Gd QM K45M EcZ
def chk (n : Nat) : Bool := (List.range n).all fun r => r == 0 || Nat.gcd r n == 1
theorem pp_chk {n : Nat} (h1 : 1 < n) (h : chk n = true) : Pp (n : Int) := by
  refine ⟨by omega, fun z hz => ?_⟩
  refine (un_iff (by omega)).mpr ?_
  rw [← gcd_congr (Mo.mod (n := (n : Int)) (a := z))]
  have r0 := Int.emod_nonneg z (show (n : Int) ≠ 0 by omega)
  have r1 := Int.emod_lt_of_pos z (show (0 : Int) < n by omega)
  have rn : z % (n : Int) ≠ 0 := fun e => hz (mod0.mp e)
  generalize z % (n : Int) = r at *
  have hm : r.toNat ∈ List.range n := List.mem_range.mpr (by omega)
  have h2 := List.all_eq_true.mp h _ hm
  rcases (Bool.or_eq_true _ _).mp h2 with g | g
  · have := eq_of_beq g
    omega
  · have e := eq_of_beq g
    show Nat.gcd r.natAbs (n : Int).natAbs = 1
    rw [show r.natAbs = r.toNat by omega]
    exact e
def PrL (p : Int) : Prop := Pp p ∧ p ≤ 31
theorem prl {n : Nat} (h1 : 1 < n) (h2 : n ≤ 31) (h : chk n = true) : PrL (n : Int) := ⟨pp_chk h1 h, by omega⟩
theorem prl_all : ∀ p ∈ [(2 : Int), 3, 5, 7, 11, 13, 17, 19, 23, 29, 31], PrL p := by
  intro p hp
  simp only [List.mem_cons, List.not_mem_nil, or_false] at hp
  rcases hp with rfl | rfl | rfl | rfl | rfl | rfl | rfl | rfl | rfl | rfl | rfl
  · exact prl (n := 2) (by decide) (by decide) (by decide)
  · exact prl (n := 3) (by decide) (by decide) (by decide)
  · exact prl (n := 5) (by decide) (by decide) (by decide)
  · exact prl (n := 7) (by decide) (by decide) (by decide)
  · exact prl (n := 11) (by decide) (by decide) (by decide +kernel)
  · exact prl (n := 13) (by decide) (by decide) (by decide +kernel)
  · exact prl (n := 17) (by decide) (by decide) (by decide +kernel)
  · exact prl (n := 19) (by decide) (by decide) (by decide +kernel)
  · exact prl (n := 23) (by decide) (by decide) (by decide +kernel)
  · exact prl (n := 29) (by decide) (by decide) (by decide +kernel)
  · exact prl (n := 31) (by decide) (by decide) (by decide +kernel)
theorem ok_last : Okc 2 ⟨0, 0, 1, 0, 0⟩ := ⟨(prl (n := 2) (by decide) (by decide) (by decide)).1, by decide, ⟨by decide, by decide⟩, ⟨by decide, by decide⟩, ⟨by decide, by decide⟩, ⟨by decide, by decide⟩, ⟨by decide, by decide⟩, by unfold Mo; decide⟩
section
variable {P : Program} {w : World} {K : PySem.W.Frag} {mg : Str → Option Value} {base : Heap}
def sp_law_over_p (K : PySem.W.Frag) : Sp := fun vs H Q _ => ∃ (m cl pa : Addr) (n : Nat) (ps : List Int), vs = [.ref m, .ref pa] ∧ SqL K H pa (ps.map V.int) ∧ 0 < ps.length ∧ ps.length ≤ 1000 ∧ (∀ p ∈ ps, PrL p) ∧ n ≤ 10000 ∧ MAt H m cl n ∧ ∀ H' t ca p c, But m H H' → MAt H' m cl (n + 301) → SqT K H' t [.int p, .ref ca] → SqT K H' ca (cL c) → Okc p c → Q (.ref t) H'
abbrev s__law_over_p : Stmt := topS 16
theorem sc__law_over_p : FnScope ["m", "primes", "p", "lap", "five", "k"] ["m", "primes"] (defScope s__law_over_p) := ⟨rfl, rfl, rfl, by decide +kernel, rfl, by decide +kernel, by decide +kernel⟩
theorem k_law_over_p (T : Tx K mg) (D : Df K mg "_law_over_p" s__law_over_p ["m", "primes"]) (c_law_of : Kl P w K mg base 2 "_law_of" (sp_law_of K)) (c_law_draw : Kl P w K mg base 1 "_law_draw" (sp_law_draw K)) (c_law_numbers : Kl P w K mg base 1 "_law_numbers" (sp_law_numbers K)) : Kl P w K mg base 3 "_law_over_p" (sp_law_over_p K) := by
  have nd := sc__law_over_p.nd
  refine Kl.by_body D sc__law_over_p (fun vs H Q E h => ?_) (fun f cdv A outer s H vs Q E hr h => ?_)
  · obtain ⟨_, _, _, _, _, rfl, _⟩ := h
    rfl
  · obtain ⟨m, cl, pa, n, ps, rfl, hps, h0, h1, hpr, hn, hM, q⟩ := h
    have hu1 := hu_of hr
    refine ⟨_, (pss_cons (ps_set (i := 2) nd rfl (by first | exact Or.inl rfl | exact Or.inr rfl) (pe_k c_law_of  hr (by decide) (by rfl) (pa_cons (pv 0) (pa_cons (pv 1) pa_nil))))
      (pss_cons (ps_for PassesOwn.never rfl (pi_range1 (by rfl) T.range (pa_cons pe_int pa_nil)) (pg_name (i := 3) nd rfl (by first | exact Or.inl rfl | exact Or.inr rfl)) (pss_cons (ps_set (i := 4) nd rfl (by first | exact Or.inl rfl | exact Or.inr rfl) (pe_callTy call_tuple_of (by rfl) T.tuple (by decide +kernel) (pa_cons (pe_lc (own := [("k", 5)]) (g := gName 5) rfl nd (pi_range1 (by rfl) T.range (pa_cons pe_int pa_nil)) (blkOk_by (N := ["m", "primes", "p", "lap", "five", "k"]) (sc := defScope s__law_over_p) (by decide +kernel)) (fun _ _ _ _ _ => (pg_name (i := 5) nd rfl (by first | exact Or.inl rfl | exact Or.inr rfl))) (fun _ _ _ _ _ => pts_nil) (fun _ _ _ _ _ => (pe_k c_law_draw  hr (by decide) (by rfl) (pa_cons (pv 0) (pa_cons (pv 2) pa_nil))))) pa_nil)))
      (pss_one (ps_if (pt_cmpR op_ne (pe_op op_mod (pe_callTy call_intI (by rfl) T.int (by decide +kernel) (pa_cons (pe_ix ix_tup (pe_k c_law_numbers  hr (by decide) (by rfl) (pa_cons (pv 4) pa_nil)) pe_int (fun _ _ => rfl)) pa_nil)) (pv 2)) pe_int (nomark _)) (pss_one (ps_ret (pe_tup (pa_cons (pv 2) (pa_cons (pv 4) pa_nil))))) pss_nil))))
      (pss_one (ps_ret (pe_tup (pa_cons pe_int (pa_cons (pe_tup (pa_cons pe_int (pa_cons pe_int (pa_cons pe_int (pa_cons pe_int (pa_cons pe_int pa_nil)))))) pa_nil))))))), ?_⟩
    refine ⟨_, rfl, _, rfl, m, cl, pa, _, n, rfl, hps, by rw [List.length_map]; exact h0, by rw [List.length_map]; exact h1, by omega, hM, fun H1 z b1 m1 hz => ?_⟩
    obtain ⟨p, hp, rfl⟩ := List.mem_map.mp hz
    obtain ⟨pp, p31⟩ := hpr p hp
    have hp0 : 0 < p := by
      have := pp.1
      omega
    first | refine sigN [some (.ref m), some (.ref pa), some (.int (p)), none, none, none] (by rfl) ?_ | refine sig [some (.ref m), some (.ref pa), some (.int (p)), none, none, none] (by rfl) ?_
    refine ⟨60, rfl, by decide, by decide, for_range (lo := 0) (n := 60) (fun i σ H2 => But m H1 H2 ∧ MAt H2 m cl (n + 1 + 5 * i) ∧ ∃ v1 v2 v3 : Option V, σ = [some (.ref m), some (.ref pa), some (.int p), v1, v2, v3]) ⟨But.refl m _, m1, none, none, none, rfl⟩ ?_ ?_⟩
    · rintro i σ H2 hi ⟨b2, m2, v1, v2, v3, rfl⟩
      first | refine sigN [some (.ref m), some (.ref pa), some (.int (p)), some (.int (0 + (i : Int))), v2, v3] (by rfl) ?_ | refine sig [some (.ref m), some (.ref pa), some (.int (p)), some (.int (0 + (i : Int))), v2, v3] (by rfl) ?_
      refine ⟨5, rfl, by decide, by decide, fun D hD => ?_⟩
      have hmD := m2.ne hD
      refine lc_range (lo := 0) (n := 5) (fun j H3 => ∃ L : List Int, H3 D = some (.lst (L.map V.int)) ∧ L.length = j ∧ (∀ x ∈ L, Dg p x) ∧ But m H2 H3 ∧ MAt H3 m cl (n + 1 + 5 * i + j)) ⟨[], upd_same, rfl, (by intro x hx; cases hx), But.of (Same.new hD), m2.same (Same.new hD)⟩ (fun j H3 hj z => ?_) (fun H3 z => ?_)
      · obtain ⟨L, hL, el, hB, b3, m3⟩ := z
        refine ⟨rfl, _, rfl, _, rfl, m, cl, p, n + 1 + 5 * i + j, rfl, hp0, by omega, by omega, m3, fun H4 r b4 m4 r0 r1 => ?_⟩
        refine ⟨_, b4.lst m3 hL, by rw [List.length_map]; exact small1000 (by omega), L ++ [r], ?_, by rw [List.length_append, el]; rfl, ?_, fun c o e nc => ?_, ?_⟩
        · rw [upd_same, List.map_append]
          rfl
        · intro x hx
          rcases List.mem_append.mp hx with hx | hx
          · exact hB x hx
          · rw [List.mem_singleton.mp hx]
            exact ⟨r0, r1⟩
        · rw [upd_ne (ne_of_none e hD)]
          exact (b3.trans b4) c o e nc
        · exact m4.put hmD
      obtain ⟨L, hL, el, hB, b3, m3⟩ := z
      obtain ⟨c, rfl⟩ : ∃ c : C5, L = [c.a1, c.a2, c.a3, c.a4, c.a6] := by
        match L, el with
        | [x1, x2, x3, x4, x6], _ => exact ⟨⟨x1, x2, x3, x4, x6⟩, rfl⟩
      have g1 := hB c.a1 (by simp)
      have g2 := hB c.a2 (by simp)
      have g3 := hB c.a3 (by simp)
      have g4 := hB c.a4 (by simp)
      have g6 := hB c.a6 (by simp)
      have sB : ∀ {u : Int}, Dg p u → B 5 u := fun h => by
        unfold Dg at h
        unfold Gd.B
        omega
      refine ⟨D, cL c, rfl, .inl ⟨lst_of hL, fun f nf => ?_⟩⟩
      have s4 := Same.new (H := H3) (p := f) (o := .tup (cL c)) nf
      have gf : upd H3 f (.tup (cL c)) f = some (.tup (cL c)) := upd_same
      generalize upd H3 f (.tup (cL c)) = H4 at s4 gf ⊢
      first | refine sigN [some (.ref m), some (.ref pa), some (.int (p)), some (.int (0 + (i : Int))), some (.ref f), v3] (by rfl) ?_ | refine sig [some (.ref m), some (.ref pa), some (.int (p)), some (.int (0 + (i : Int))), some (.ref f), v3] (by rfl) ?_
      have m4 := m3.same s4
      refine ⟨_, rfl, f, c, rfl, tup_of gf, ⟨sB g1, sB g2, sB g3, sB g4, sB g6⟩, fun u c4 c6 nu => ?_⟩
      have s5 := Same.new (H := H4) (p := u) (o := .tup [.int c.b2, .int c.b4, .int c.b6, .int c.b8, .int c4, .int c6, .int c.disc]) nu
      have gu : upd H4 u (.tup [.int c.b2, .int c.b4, .int c.b6, .int c.b8, .int c4, .int c6, .int c.disc]) u = some (.tup [.int c.b2, .int c.b4, .int c.b6, .int c.b8, .int c4, .int c6, .int c.disc]) := upd_same
      generalize upd H4 u (.tup [.int c.b2, .int c.b4, .int c.b6, .int c.b8, .int c4, .int c6, .int c.disc]) = H5 at s5 gu ⊢
      have m5 := m4.same s5
      have bA : But m H1 H5 := b2.trans (b3.trans (But.of (s4.trans s5)))
      refine ⟨u, _, 6, _, rfl, rfl, tup_of gu, rfl, _, rfl, _, rfl, _, _, rfl, rfl, hp0, rfl, _, rfl, ?_⟩
      rw [dec_int]
      by_cases hd : c.disc % p = 0
      · refine iteN (by simpa using hd) ?_
        exact ⟨bA, m5.up (by omega), _, _, _, rfl⟩
      · refine iteY (by simpa using hd) ?_
        refine ⟨_, rfl, _, rfl, (by show 2 ≤ sizeLine; decide), fun t nt => ?_⟩
        have s6 := Same.new (o := .tup [.int p, .ref f]) nt
        refine q _ t f p c (b1.trans (bA.trans (But.of s6))) ((m5.same s6).up (by omega)) (tup_of upd_same) (Same.tup s6 (tup_of (s5 _ _ gf))) ⟨pp, p31, g1, g2, g3, g4, g6, fun h => hd (mod0.mpr h)⟩
    · rintro σ H2 ⟨b2, m2, v1, v2, v3, rfl⟩
      refine ⟨(by show 5 ≤ sizeLine; decide), fun f nf => ?_⟩
      have s3 := Same.new (H := H2) (p := f) (o := .tup [.int 0, .int 0, .int 1, .int 0, .int 0]) nf
      have gf : upd H2 f (.tup [.int 0, .int 0, .int 1, .int 0, .int 0]) f = some (.tup [.int 0, .int 0, .int 1, .int 0, .int 0]) := upd_same
      generalize upd H2 f (.tup [.int 0, .int 0, .int 1, .int 0, .int 0]) = H3 at s3 gf ⊢
      refine ⟨(by show 2 ≤ sizeLine; decide), fun t nt => ?_⟩
      have s4 := Same.new (o := .tup [.int 2, .ref f]) nt
      exact q _ t f 2 ⟨0, 0, 1, 0, 0⟩ (b1.trans (b2.trans (But.of (s3.trans s4)))) ((m2.same (s3.trans s4)).up (by omega)) (tup_of upd_same) (Same.tup s4 (tup_of gf)) ok_last
end
end K41
/-! What points generate; how many points there are. Plain mathematics. -/
set_option linter.all false
namespace K41
open K45M EcZ
section
variable {p : Int} {c : C5} {A B D : EcZ.Pt}
inductive Gen (p : Int) (c : C5) (S : List EcZ.Pt) : EcZ.Pt → Prop
  | zero : Gen p c S none
  | step {A B : EcZ.Pt} : Gen p c S A → B ∈ S → Gen p c S (psum p c A B)
def AllK (p : Int) (c : C5) (S : List EcZ.Pt) : Prop := ∀ A ∈ S, PtK p c A
theorem Gen.ok (o : Okc p c) {S : List EcZ.Pt} (hS : AllK p c S) (h : Gen p c S A) : PtK p c A := by
  induction h with
  | zero => trivial
  | step h hb ih => exact o.sum ih (hS _ hb)
theorem Gen.mono {S T : List EcZ.Pt} (hs : ∀ A ∈ S, A ∈ T) (h : Gen p c S A) : Gen p c T A := by
  induction h with
  | zero => exact .zero
  | step h hb ih => exact .step ih (hs _ hb)
theorem Gen.add (o : Okc p c) {S : List EcZ.Pt} (hS : AllK p c S) (ha : Gen p c S A) (hb : Gen p c S B) : Gen p c S (psum p c A B) := by
  induction hb with
  | zero =>
    rw [psum_none]
    exact ha
  | step h hd ih =>
    rw [← o.assoc (ha.ok o hS) (h.ok o hS) (hS _ hd)]
    exact .step ih hd
theorem Gen.mul (o : Okc p c) {S : List EcZ.Pt} (hS : AllK p c S) {P : EcZ.Pt} (hP : P ∈ S) (ha : Gen p c S A) : ∀ s, Gen p c S (psum p c A (smul p c P s))
  | 0 => by
    rw [show smul p c P 0 = none from rfl, psum_none]
    exact ha
  | s + 1 => by
    show Gen p c S (psum p c A (psum p c (smul p c P s) P))
    rw [← o.assoc (ha.ok o hS) (smul_ok o (hS _ hP) s) (hS _ hP)]
    exact .step (Gen.mul o hS hP ha s) hP
/-- one more point: multiples until one is there -/
theorem gen_more (o : Okc p c) {S : List EcZ.Pt} (hS : AllK p c S) {P : EcZ.Pt} (kP : PtK p c P) {t : Nat} (ht : ∃ g, Gen p c S g ∧ ∃ s, s ≤ t ∧ smul p c P (t + 1) = psum p c g (smul p c P s)) (X : EcZ.Pt) :
    Gen p c (S ++ [P]) X ↔ ∃ g, Gen p c S g ∧ ∃ s, s ≤ t ∧ X = psum p c g (smul p c P s) := by
  have hT : AllK p c (S ++ [P]) := fun A hA => by
    rcases List.mem_append.mp hA with h | h
    · exact hS A h
    · rw [List.mem_singleton.mp h]
      exact kP
  constructor
  · intro h
    induction h with
    | zero => exact ⟨none, .zero, 0, Nat.zero_le _, rfl⟩
    | step h hb ih =>
      obtain ⟨g, hg, s, hs, rfl⟩ := ih
      have kg := hg.ok o hS
      have ks := smul_ok o kP s
      rcases List.mem_append.mp hb with h1 | h1
      · refine ⟨_, hg.step h1, s, hs, ?_⟩
        rw [o.assoc kg ks (hS _ h1), o.comm ks (hS _ h1), ← o.assoc kg (hS _ h1) ks]
      · rw [List.mem_singleton.mp h1, o.assoc kg ks kP]
        rcases Nat.lt_or_ge s t with hlt | hge
        · exact ⟨g, hg, s + 1, hlt, rfl⟩
        · obtain rfl : s = t := by omega
          obtain ⟨g0, hg0, s0, hs0, e⟩ := ht
          refine ⟨_, hg.add o hS hg0, s0, hs0, ?_⟩
          rw [show psum p c (smul p c P s) P = smul p c P (s + 1) from rfl, e, o.assoc kg (hg0.ok o hS) (smul_ok o kP s0)]
  · rintro ⟨g, hg, s, _, rfl⟩
    exact Gen.mul o hT (List.mem_append.mpr (.inr (List.mem_singleton.mpr rfl))) (hg.mono fun A h => List.mem_append.mpr (.inl h)) s
theorem len_eq {L M : List EcZ.Pt} (hl : L.Nodup) (hm : M.Nodup) (h : ∀ A, A ∈ L ↔ A ∈ M) : L.length = M.length := (List.perm_ext_iff_of_nodup hl hm |>.mpr fun A => h A).length_eq
/-! ### how many -/
theorem nat_count : ∀ (m : Nat) (L : List Nat), L.Nodup → (∀ x ∈ L, x < m) → L.length ≤ m
  | 0, L, _, h => by
    match L, h with
    | [], _ => exact Nat.le_refl _
    | a :: r, h => exact absurd (h a (List.mem_cons_self ..)) (by omega)
  | m + 1, L, hn, h => by
    have h1 := nat_count m (L.erase m) (hn.erase m) fun x hx => by
      have h2 := (hn.mem_erase_iff).mp hx
      have := h x h2.2
      have := h2.1
      omega
    have h2 : L.length ≤ (L.erase m).length + 1 := by
      rw [List.length_erase]
      split <;> omega
    omega
def pix (p : Int) (c : C5) : EcZ.Pt → Nat
  | none => 0
  | some (x, y) => 2 * x.toNat + 1 + (if (-y - c.a1 * x - c.a3) % p < y then 1 else 0)
theorem pix_lt (o : Okc p c) (h : PtK p c A) : pix p c A < 2 * p.toNat + 1 := by
  match A, h with
  | none, _ => exact Nat.succ_pos _
  | some (x, y), h =>
    have h1 := h.1
    unfold Dg at h1
    show 2 * x.toNat + 1 + _ < _
    split <;> omega
theorem pix_inj (o : Okc p c) (ha : PtK p c A) (hb : PtK p c B) (h : pix p c A = pix p c B) : A = B := by
  match A, B, ha, hb, h with
  | none, none, _, _, _ => rfl
  | none, some (x, y), _, hb, h =>
    exfalso
    have h' : 0 = 2 * x.toNat + 1 + (if (-y - c.a1 * x - c.a3) % p < y then 1 else 0) := h
    omega
  | some (x, y), none, _, _, h =>
    exfalso
    have h' : 2 * x.toNat + 1 + (if (-y - c.a1 * x - c.a3) % p < y then 1 else 0) = 0 := h
    omega
  | some (x, y), some (z, w), ha, hb, h =>
    have h' : 2 * x.toNat + 1 + (if (-y - c.a1 * x - c.a3) % p < y then 1 else 0) = 2 * z.toNat + 1 + (if (-w - c.a1 * z - c.a3) % p < w then 1 else 0) := h
    have x0 := ha.1.1
    have z0 := hb.1.1
    have e : x = z := by
      split at h' <;> split at h' <;> omega
    subst e
    by_cases g : w = (-y - c.a1 * x - c.a3) % p
    · have g2 : (-w - c.a1 * x - c.a3) % p = y := by
        have e1 := (opp_mod o.p0 hb.2.1).mp g
        have e2 : y = (-w - c.a1 * x - c.a3) % p := (opp_mod o.p0 ha.2.1).mpr (by
          rw [show w + y + c.a1 * x + c.a3 = y + w + c.a1 * x + c.a3 by omega]
          exact e1)
        exact e2.symm
      rw [g2, ← g] at h'
      have : w = y := by
        split at h' <;> split at h' <;> omega
      rw [this]
    · rw [same_y o.pp ha hb g]
theorem nodup_pix (o : Okc p c) : ∀ L : List EcZ.Pt, L.Nodup → AllK p c L → (L.map (pix p c)).Nodup
  | [], _, _ => List.nodup_nil
  | A :: L, hn, hk => by
    rw [List.map_cons, List.nodup_cons]
    rw [List.nodup_cons] at hn
    refine ⟨fun h => ?_, nodup_pix o L hn.2 fun B hB => hk B (List.mem_cons_of_mem _ hB)⟩
    obtain ⟨B, hB, e⟩ := List.mem_map.mp h
    have := pix_inj o (hk B (List.mem_cons_of_mem _ hB)) (hk A (List.mem_cons_self ..)) e
    subst this
    exact hn.1 hB
theorem pt_count (o : Okc p c) {L : List EcZ.Pt} (hn : L.Nodup) (hk : AllK p c L) : L.length ≤ 2 * p.toNat + 1 := by
  have h := nat_count (2 * p.toNat + 1) _ (nodup_pix o L hn hk) fun x hx => by
    obtain ⟨A, hA, rfl⟩ := List.mem_map.mp hx
    exact pix_lt o (hk A hA)
  rwa [List.length_map] at h
end
end K41
/-! Logarithms by steps. Plain mathematics. -/
set_option linter.all false
namespace K41
open K45M EcZ
section
variable {p : Int} {c : C5} {A B D S X Y Z : EcZ.Pt}
theorem Okc.neg (o : Okc p c) (ha : PtK p c A) : PtK p c (pneg p c A) := pneg_ok o.p0 ha
theorem neg_sum (o : Okc p c) (hs : PtK p c S) (hz : PtK p c Z) : psum p c (pneg p c S) (psum p c S Z) = Z := by
  rw [← o.assoc (o.neg hs) hs hz, o.comm (o.neg hs) hs, psum_neg o.pp hs]
  rfl
theorem canl (o : Okc p c) (hs : PtK p c S) (hy : PtK p c Y) (hz : PtK p c Z) (h : psum p c S Y = psum p c S Z) : Y = Z := by
  rw [← neg_sum o hs hy, h, neg_sum o hs hz]
theorem canr (o : Okc p c) (hs : PtK p c S) (hy : PtK p c Y) (hz : PtK p c Z) (h : psum p c Y S = psum p c Z S) : Y = Z := by
  rw [o.comm hy hs, o.comm hz hs] at h
  exact canl o hs hy hz h
theorem smul_can (o : Okc p c) (ha : PtK p c A) {i d : Nat} (h : smul p c A i = smul p c A (i + d)) : smul p c A d = none := by
  rw [smul_add o ha] at h
  refine canl o (smul_ok o ha i) (smul_ok o ha d) none_ok ?_
  rw [← h, psum_none]
theorem smul_tm (o : Okc p c) (ha : PtK p c A) {m : Nat} (hm : smul p c A m = none) : ∀ t, smul p c A (m * t) = none
  | 0 => rfl
  | t + 1 => by
    rw [Nat.mul_succ, smul_add o ha, smul_tm o ha hm t, hm]
    rfl
theorem smul_mod (o : Okc p c) (ha : PtK p c A) {m : Nat} (hm : smul p c A m = none) (k : Nat) : smul p c A k = smul p c A (k % m) := by
  have e : k = m * (k / m) + k % m := (Nat.div_add_mod k m).symm
  have e2 := smul_add o ha (m * (k / m)) (k % m)
  rw [← e, smul_tm o ha hm] at e2
  exact e2
/-- no multiple ahead of m is nought -/
def Ns (p : Int) (c : C5) (A : EcZ.Pt) (m : Nat) : Prop := ∀ j, 1 ≤ j → j < m → smul p c A j ≠ none
theorem Ns.ne (o : Okc p c) (ha : PtK p c A) {m i j : Nat} (h : Ns p c A m) (hi : i < j) (hj : j < m) : smul p c A i ≠ smul p c A j := fun e => by
  obtain ⟨d, rfl⟩ := Nat.exists_eq_add_of_lt hi
  exact h (d + 1) (by omega) (by omega) (smul_can o ha e)
theorem Ns.inj (o : Okc p c) (ha : PtK p c A) {m i j : Nat} (h : Ns p c A m) (hi : i < m) (hj : j < m) (e : smul p c A i = smul p c A j) : i = j := by
  rcases Nat.lt_trichotomy i j with g | g | g
  · exact absurd e (h.ne o ha g hj)
  · exact g
  · exact absurd e.symm (h.ne o ha g hi)
/-- some multiple is nought -/
theorem order (o : Okc p c) (ha : PtK p c A) : ∃ n, 1 ≤ n ∧ n ≤ 2 * p.toNat + 1 ∧ smul p c A n = none := by
  refine Classical.byContradiction fun hno => ?_
  have hN : Ns p c A (2 * p.toNat + 2) := fun j h1 h2 e => hno ⟨j, h1, by omega, e⟩
  have hn : ((List.range (2 * p.toNat + 2)).map (smul p c A)).Nodup := by
    rw [List.Nodup, List.pairwise_map]
    refine List.Pairwise.imp_of_mem ?_ (List.pairwise_lt_range (n := 2 * p.toNat + 2))
    intro i j _ hj hij
    exact hN.ne o ha hij (List.mem_range.mp hj)
  have h := pt_count o hn fun X hX => by
    obtain ⟨k, _, rfl⟩ := List.mem_map.mp hX
    exact smul_ok o ha k
  rw [List.length_map, List.length_range] at h
  omega
/-- the logarithm of X, if there is one -/
def Lg (p : Int) (c : C5) (A X : EcZ.Pt) : Option Nat → Prop
  | none => ∀ k, X ≠ smul p c A k
  | some k => X = smul p c A k ∧ ∀ j, j < k → X ≠ smul p c A j
theorem Lg.uniq {o1 o2 : Option Nat} (h : Lg p c A X o1) (k : Lg p c A X o2) : o1 = o2 := by
  match o1, o2, h, k with
  | none, none, _, _ => rfl
  | none, some j, h, k => exact absurd k.1 (h j)
  | some i, none, h, k => exact absurd h.1 (k i)
  | some i, some j, h, k =>
    rcases Nat.lt_trichotomy i j with g | g | g
    · exact absurd h.1 (k.2 i g)
    · rw [g]
    · exact absurd k.1 (h.2 j g)
/-- the steps' table reaches to m -/
def Tb (p : Int) (c : C5) (A : EcZ.Pt) (step m : Nat) : Prop := Ns p c A m ∧ m ≤ step ∧ (m = step ∨ (1 ≤ m ∧ smul p c A m = none))
theorem lg_hit (o : Okc p c) (ha : PtK p c A) (hy : PtK p c Y) {step m i j : Nat} (tb : Tb p c A step m) (e : psum p c Y (smul p c A (i * step)) = X) (hk : ∀ k, k < i * step → X ≠ smul p c A k) (hj : j < m) (hYj : Y = smul p c A j) : Lg p c A X (some (i * step + j)) := by
  subst hYj
  rw [← smul_add o ha] at e
  refine ⟨by rw [← e, Nat.add_comm], fun k hk' he => ?_⟩
  rcases Nat.lt_or_ge k (i * step) with g | g
  · exact hk k g he
  · obtain ⟨d, rfl⟩ := Nat.exists_eq_add_of_le g
    have e2 : smul p c A (j + i * step) = smul p c A (d + i * step) := by
      rw [e, he, Nat.add_comm]
    rw [smul_add o ha, smul_add o ha] at e2
    have e3 := canr o (smul_ok o ha _) (smul_ok o ha j) (smul_ok o ha d) e2
    have := tb.1.inj o ha hj (by omega) e3
    omega
theorem lg_miss (o : Okc p c) (ha : PtK p c A) (hy : PtK p c Y) {step m i : Nat} (tb : Tb p c A step m) (e : psum p c Y (smul p c A (i * step)) = X) (hk : ∀ k, k < i * step → X ≠ smul p c A k) (hm : ∀ j, j < m → Y ≠ smul p c A j) : ∀ k, k < (i + 1) * step → X ≠ smul p c A k := by
  intro k hk' he
  rcases Nat.lt_or_ge k (i * step) with g | g
  · exact hk k g he
  · obtain ⟨d, rfl⟩ := Nat.exists_eq_add_of_le g
    have e2 : psum p c Y (smul p c A (i * step)) = psum p c (smul p c A d) (smul p c A (i * step)) := by
      rw [e, he, ← smul_add o ha, Nat.add_comm]
    have e3 := canr o (smul_ok o ha _) hy (smul_ok o ha d) e2
    rw [Nat.succ_mul] at hk'
    rcases tb.2.2 with z | ⟨z1, z2⟩
    · exact hm d (by omega) e3
    · exact hm (d % m) (Nat.mod_lt _ (by omega)) (by rw [e3, ← smul_mod o ha z2])
theorem lg_end (o : Okc p c) (ha : PtK p c A) {step : Nat} (hs : 2 * p.toNat + 1 ≤ step * step) (hk : ∀ k, k < (step + 1) * step → X ≠ smul p c A k) : Lg p c A X none := by
  intro k he
  obtain ⟨n, n1, n2, hn⟩ := order o ha
  rw [smul_mod o ha hn] at he
  have := Nat.mod_lt k (show n > 0 by omega)
  exact hk (k % n) (by rw [Nat.succ_mul]; omega) he
theorem lg_back (o : Okc p c) (ha : PtK p c A) (hy : PtK p c Y) {step i : Nat} (e : psum p c Y (smul p c A (i * step)) = X) : psum p c (psum p c Y (pneg p c (smul p c A step))) (smul p c A ((i + 1) * step)) = X := by
  have hs := smul_ok o ha step
  rw [Nat.succ_mul, Nat.add_comm, smul_add o ha step, o.assoc hy (o.neg hs) (o.sum hs (smul_ok o ha _)), neg_sum o hs (smul_ok o ha _)]
  exact e
end
end K41
/-! The third point on a line. Plain mathematics. -/
set_option linter.all false
namespace K41
open K45M EcZ
theorem line_ring {R : Type} [Lean.Grind.CommRing R] (nz : EcF.Nz R) {C : EcF.Cu R} {x y z w e f k : R} (o : EcF.On C x y) (o' : EcF.On C z w) (o2 : EcF.On C e f) (h : k * (z - x) = w - y) (hz : z - x ≠ 0) (hl : (e - x) * (w - y) = (f - y) * (z - x)) :
    (e = x ∧ f = y) ∨ (e = z ∧ f = w) ∨ (e = EcF.tx C k x z ∧ f = k * (e - x) + y) := by
  have s2 := (slo_ring1 nz o o' h hz).2
  have ef : f = k * (e - x) + y := by
    have e1 : (z - x) * (f - (k * (e - x) + y)) = 0 := by
      rw [← h] at hl
      clear o o' o2 s2 h hz nz
      grind
    rcases nz _ _ e1 with g | g
    · exact absurd g hz
    · clear e1 o o' o2 s2 h hl hz nz
      grind
  have ew : w = y + k * (z - x) := EcF.mv1 h
  have g0 : (e - x) * (k * k * (e - x) + 2 * k * y + C.a1 * k * e + C.a1 * y + C.a3 * k - (e * e + e * x + x * x) - C.a2 * (e + x) - C.a4) = 0 := by
    unfold EcF.On at o o2
    subst ef
    clear o' h hz hl ew s2 nz
    grind
  have gz : k * k * (z - x) + 2 * k * y + C.a1 * k * z + C.a1 * y + C.a3 * k - (z * z + z * x + x * x) - C.a2 * (z + x) - C.a4 = 0 := by
    subst ew
    clear o o' o2 h hz hl ef g0 nz
    grind
  rcases nz _ _ g0 with g | g
  · refine .inl ?_
    have ex : e = x := by
      clear o o' o2 h hz hl ef g0 nz gz s2 ew
      grind
    refine ⟨ex, ?_⟩
    rw [ef, ex]
    clear o o' o2 h hz hl ef g0 nz gz s2 ew
    grind
  · have g1 : (e - z) * (EcF.tx C k x z - e) = 0 := by
      unfold EcF.tx
      clear o o' o2 h hz hl ef g0 nz s2 ew
      grind
    rcases nz _ _ g1 with g2 | g2
    · refine .inr (.inl ?_)
      have ez : e = z := by
        clear o o' o2 h hz hl ef g0 nz gz s2 ew g1 g
        grind
      refine ⟨ez, ?_⟩
      rw [ef, ez, ew]
      clear o o' o2 h hz hl ef g0 nz gz s2 ew g1 g
      grind
    · refine .inr (.inr ⟨?_, ef⟩)
      generalize EcF.tx C k x z = t at *
      clear o o' o2 h hz hl ef g0 nz gz s2 ew g1 g
      grind
theorem third_is {p : Int} {c : C5} (ok : Okc p c) {x y z w e f : Int} (ha : PtK p c (some (x, y))) (hb : PtK p c (some (z, w))) (hc : PtK p c (some (e, f))) (hx : x ≠ z) (hl : ((e - x) * (w - y) - (f - y) * (z - x)) % p = 0)
    (n1 : ¬(some (e, f) = some (x, y))) (n2 : ¬(some (e, f) = some (z, w))) : psum p c (some (x, y)) (some (z, w)) = pneg p c (some (e, f)) := by
  have hu := diff_unit ok.pp ha.1 hb.1 hx
  obtain ⟨t, ht⟩ := ok.pp.2 _ hu
  have hr : Inv p (z - x) (t % p) := ⟨Dg.mod ok.p0, (Mo.mul Mo.rfl' Mo.mod).trans ht⟩
  refine qp_inj (ok.sum ha hb) (pneg_ok ok.p0 hc) ?_
  rw [psum_diff hx hr, far_q, pneg_q]
  have hk : q p ((w - y) * (t % p)) * (q p z - q p x) = q p w - q p y := by
    show q p ((w - y) * (t % p) * (z - x)) = q p (w - y)
    refine q_eq.mpr ?_
    have := (Mo.rfl' (n := p) (a := w - y)).mul hr.2
    rw [Int.mul_one] at this
    exact (Mo.of_eq (by ac_rfl)).trans this
  have hzx : q p z - q p x ≠ 0 := fun h => hu (q_eq.mp h)
  have hl2 : (q p e - q p x) * (q p w - q p y) = (q p f - q p y) * (q p z - q p x) := by
    show q p ((e - x) * (w - y)) = q p ((f - y) * (z - x))
    refine q_eq.mpr ?_
    rw [Mo.iff_dvd]
    exact Int.dvd_of_emod_eq_zero hl
  rcases line_ring ok.pp.nz ha.2.2 hb.2.2 hc.2.2 hk hzx hl2 with ⟨h1, h2⟩ | ⟨h1, h2⟩ | ⟨h1, h2⟩
  · exact absurd (by rw [q_dg hc.1 ha.1 h1, q_dg hc.2.1 ha.2.1 h2]) n1
  · exact absurd (by rw [q_dg hc.1 hb.1 h1, q_dg hc.2.1 hb.2.1 h2]) n2
  · rw [← h1, ← h2]
    rfl
end K41
set_option Elab.async false
set_option linter.all false
set_option maxRecDepth 100000
set_option maxHeartbeats 4000000
namespace K41
open PySem PySem.Spec PyProof.Rows L2 Gd QM K45M EcZ
theorem sh_pt : ∀ As : List EcZ.Pt, PyData.canLayAll0 (As.map dPt) = true ∧ PyData.depthAll (As.map dPt) ≤ 2
  | [] => ⟨rfl, Nat.zero_le _⟩
  | A :: As => by
    obtain ⟨h1, h2⟩ := sh_pt As
    have h3 : (dPt A).canLay0 = true ∧ (dPt A).depth ≤ 1 := by
      match A with
      | none => exact ⟨rfl, by decide +kernel⟩
      | some (x, y) =>
        refine ⟨rfl, ?_⟩
        show (PyData.tuple [.int x, .int y]).depth ≤ 1
        simp [PyData.depth, PyData.depthAll]
    constructor
    · show ((dPt A).canLay0 && PyData.canLayAll0 (As.map dPt)) = true
      rw [h1, h3.1]
      rfl
    · rw [List.map_cons]
      simp only [PyData.depthAll]
      omega
theorem sh_pl (As : List EcZ.Pt) : SeqAt.shaped (.list (As.map dPt)) = true := by
  obtain ⟨h1, h2⟩ := sh_pt As
  unfold SeqAt.shaped
  rw [Bool.and_eq_true, decide_eq_true_iff]
  refine ⟨h1, ?_⟩
  simp only [PyData.depth]
  omega
theorem sh_ptup (As : List EcZ.Pt) : SeqAt.shaped (.tuple (As.map dPt)) = true := by
  obtain ⟨h1, h2⟩ := sh_pt As
  unfold SeqAt.shaped
  rw [Bool.and_eq_true, decide_eq_true_iff]
  refine ⟨h1, ?_⟩
  simp only [PyData.depth]
  omega
theorem pa_dp {K : PySem.W.Frag} {H : Hp} : ∀ {bs : List Addr} {As : List EcZ.Pt}, PA K H bs As → DpAll K H (bs.map V.ref) (As.map dPt)
  | _, _, .nil => .nil
  | _, _, .cons h t => .cons (dpt h) (pa_dp t)
/-- x not in a tuple, whatever stands there -/
def rNotInDT (K : PySem.W.Frag) : R2 := fun x y H Q => ∃ d ds, Dp K H x d ∧ Dp K H y (.tuple ds) ∧ SeqAt.shaped d = true ∧ SeqAt.shaped (.tuple ds) = true ∧ Q (.bl (!ds.any fun z => PyData.eqv z d)) H
theorem op_notInDT {X : Cx} {K : PySem.W.Frag} (h : X.K = K) (hu : X.A.units + 65 < cLine) : OpR X (compareOp .NotIn) (rNotInDT K) := by
  subst h
  intro pins s σ H x y v u Q I rx ry h
  obtain ⟨d, ds, hd, he, sd, se, q⟩ := h
  obtain ⟨as, r1⟩ := Dp.reads I d x v hd rx
  obtain ⟨bs, r2⟩ := Dp.reads I (.tuple ds) y u he ry
  exact SeqAt.notIn_tuple_reads r2 r1 (SeqAt.canLay_of_shaped se) (SeqAt.canLay_of_shaped sd) (room_in_shaped sd hu) ⟨.bl _, H, I, rfl, q⟩
theorem un65 {k : Nat} {A : Around} (r : Room k A) : A.units + 65 < cLine := by have := r.un; omega
theorem bl_tup {D t : Addr} {H H' : Hp} {L xs : List V} (b : But D H H') (hD : H D = some (.lst L)) (h : H t = some (.tup xs)) : H' t = some (.tup xs) := b t _ h (ne_of h hD (by intro z; cases z))
theorem pneg_pneg {p : Int} {c : C5} {A : EcZ.Pt} (hp : 0 < p) (h : PtK p c A) : pneg p c (pneg p c A) = A := qp_inj (pneg_ok hp (pneg_ok hp h)) h (by rw [pneg_q, pneg_q, EcF.neg_neg])
/-- what a third point is -/
def Third (K : PySem.W.Frag) (H : Hp) (p : Int) (c : C5) (A B : EcZ.Pt) (v : V) : Prop := v = .non ∨ ∃ t C, v = .ref t ∧ HT K H t C ∧ PtK p c C ∧ psum p c A B = pneg p c C
section
variable {P : Program} {w : World} {K : PySem.W.Frag} {mg : Str → Option Value} {base : Heap}
def sp_law_on_line (K : PySem.W.Frag) : Sp := fun vs H Q _ => ∃ (p : Int) (c : C5) (ca a b lp : Addr) (x y z w : Int) (bs : List Addr), vs = [.int p, .ref ca, .ref a, .ref b, .ref lp] ∧ Okc p c ∧ HT K H a (some (x, y)) ∧ HT K H b (some (z, w)) ∧ PtK p c (some (x, y)) ∧ PtK p c (some (z, w)) ∧ x ≠ z ∧ H lp = some (.lst (bs.map V.ref)) ∧ PA K H bs (allP p c) ∧ bs.length ≤ 1000 ∧
  ∀ H' v, Same H H' → Third K H' p c (some (x, y)) (some (z, w)) v → Q v H'
abbrev s__law_on_line : Stmt := topS 18
theorem sc__law_on_line : FnScope ["p", "five", "one", "two", "all_points", "on", "point", "left", "rest"] ["p", "five", "one", "two", "all_points"] (defScope s__law_on_line) := ⟨rfl, rfl, rfl, by decide +kernel, rfl, by decide +kernel, by decide +kernel⟩
theorem k_law_on_line (T : Tx K mg) (D : Df K mg "_law_on_line" s__law_on_line ["p", "five", "one", "two", "all_points"])  : Kl P w K mg base 1 "_law_on_line" (sp_law_on_line K) := by
  have nd := sc__law_on_line.nd
  refine Kl.by_body D sc__law_on_line (fun vs H Q E h => ?_) (fun f cdv A outer s H vs Q E hr h => ?_)
  · obtain ⟨_, _, _, _, _, _, _, _, _, _, _, rfl, _⟩ := h
    rfl
  · obtain ⟨p, c, ca, a, b, lp, x, y, z, w, bs, rfl, ok, ha, hb, kA, kB, hxz, hlp, hP, hl, q⟩ := h
    have hu1 := hu_of hr
    refine ⟨_, (pss_cons (ps_set (i := 5) nd rfl (by first | exact Or.inl rfl | exact Or.inr rfl) (pe_lst pa_nil))
      (pss_cons (ps_for PassesOwn.never rfl (pi_list (pe_slice sl_list (pv 4) (po_some pe_int) po_none)) (pg_name (i := 6) nd rfl (by first | exact Or.inl rfl | exact Or.inr rfl)) (pss_cons (ps_set (i := 7) nd rfl (by first | exact Or.inl rfl | exact Or.inr rfl) (pe_op op_mulW (pe_op op_sub (pe_ix ix_tup (pv 6) pe_int (fun _ _ => rfl)) (pe_ix ix_tup (pv 2) pe_int (fun _ _ => rfl))) (pe_op op_sub (pe_ix ix_tup (pv 3) pe_int (fun _ _ => rfl)) (pe_ix ix_tup (pv 2) pe_int (fun _ _ => rfl)))))
      (pss_one (ps_if (pt_cmpR op_eq (pe_op op_mod (pe_callTy call_intI (by rfl) T.int (by decide +kernel) (pa_cons (pe_op op_sub (pv 7) (pe_op op_mulW (pe_op op_sub (pe_ix ix_tup (pv 6) pe_int (fun _ _ => rfl)) (pe_ix ix_tup (pv 2) pe_int (fun _ _ => rfl))) (pe_op op_sub (pe_ix ix_tup (pv 3) pe_int (fun _ _ => rfl)) (pe_ix ix_tup (pv 2) pe_int (fun _ _ => rfl))))) pa_nil)) (pv 0)) pe_int (nomark _)) (pss_one (ps_expr (pe_bm PySem.F.plainAttrs_list PySem.F.slot_list_append PySem.F.type_list_append mt_append (pv 5) (pa_cons (pv 6) pa_nil)))) pss_nil))))
      (pss_cons (ps_setLc (i := 8) (own := [("point", 6)]) (g := gName 6) rfl nd rfl rfl (sw_true rfl rfl rfl (by decide +kernel)) (pi_list (pv 5)) (blkOk_by (N := ["p", "five", "one", "two", "all_points", "on", "point", "left", "rest"]) (sc := defScope s__law_on_line) (by decide +kernel)) (fun _ _ _ _ _ => (pg_name (i := 6) nd rfl (by first | exact Or.inl rfl | exact Or.inr rfl))) (fun _ _ _ _ _ => (pts_one (pt_cmpR (op_notInDT rfl (un65 hr)) (pv 6) (pe_tup (pa_cons (pv 2) (pa_cons (pv 3) pa_nil))) rfl))) (fun _ _ _ _ _ => (pv 6)))
      (pss_one (ps_ret (pe_ifExp (pt_cmpR (op_neD hr.units) (pv 8) (pe_lst pa_nil) (nomark _)) (pe_ix ix_list (pv 8) pe_int (fun _ _ => rfl)) pe_non)))))), ?_⟩
    have hp0 := ok.p0
    have xB := dgB ok.le kA.1
    have yB := dgB ok.le kA.2.1
    have zB := dgB ok.le kB.1
    have wB := dgB ok.le kB.2.1
    refine ⟨(by show 0 ≤ sizeLine; decide), fun D nD => ?_⟩
    have s1 := Same.new (H := H) (p := D) (o := .lst []) nD
    have gD : upd H D (.lst []) D = some (.lst []) := upd_same
    generalize upd H D (.lst []) = H1 at s1 gD ⊢
    first | refine sigN [some (.int (p)), some (.ref ca), some (.ref a), some (.ref b), some (.ref lp), some (.ref D), none, none, none] (by rfl) ?_ | refine sig [some (.int (p)), some (.ref ca), some (.ref a), some (.ref b), some (.ref lp), some (.ref D), none, none, none] (by rfl) ?_
    have hlp1 := s1 _ _ hlp
    have hP1 := hP.same s1
    obtain ⟨b0, rs, rfl, hT⟩ : ∃ b0 rs, bs = b0 :: rs ∧ PA K H1 rs (allP p c).tail := by
      unfold allP allN at hP1 ⊢
      cases hP1 with
      | cons h t => exact ⟨_, _, rfl, t⟩
    refine ⟨_, rfl, 1, rfl, lp, _, rfl, lst_of hlp1, fun sl nsl => ?_⟩
    have ecut : cutV ((b0 :: rs).map V.ref) (some 1) none = rs.map V.ref := by
      unfold cutV
      rw [show ∀ n d, _root_.HT.sIx n d (some 1) = min 1 n from fun n d => _root_.HT.sIx_nat n d 1, show ∀ n d, _root_.HT.sIx n d none = d from fun n d => rfl, List.length_map, List.length_cons, show min 1 (rs.length + 1) = 1 by omega, List.map_cons, List.drop_succ_cons, List.drop_zero, List.take_of_length_le]
      rw [List.length_map]
      omega
    rw [ecut]
    have s2 := Same.new (H := H1) (p := sl) (o := .lst (rs.map V.ref)) nsl
    have gsl : upd H1 sl (.lst (rs.map V.ref)) sl = some (.lst (rs.map V.ref)) := upd_same
    generalize upd H1 sl (.lst (rs.map V.ref)) = H2 at s2 gsl ⊢
    have gD2 := s2 _ _ gD
    have nslD : sl ≠ D := fun e => by
      subst e
      rw [gD] at nsl
      cases nsl
    have hT2 := hT.same s2
    have sA := s1.trans s2
    have ha2 := sA _ _ ha
    have hb2 := sA _ _ hb
    refine ⟨sl, rfl, ⟨_, lst_of gsl⟩, for_list (K := K) (a := sl) (xs := rs.map V.ref) (fun i σ H3 => But D H2 H3 ∧ ∃ (cs : List Addr) (Cs : List EcZ.Pt) (v6 v7 : Option V), σ = [some (.int p), some (.ref ca), some (.ref a), some (.ref b), some (.ref lp), some (.ref D), v6, v7, none] ∧ H3 D = some (.lst (cs.map V.ref)) ∧ cs.length ≤ i ∧ PA K H3 cs Cs ∧ ∀ C ∈ Cs, ∃ e f, C = some (e, f) ∧ PtK p c C ∧ ((e - x) * (w - y) - (f - y) * (z - x)) % p = 0) ⟨But.refl D _, [], [], none, none, rfl, gD2, Nat.zero_le _, .nil, fun C hC => nomatch hC⟩ (fun i σ H3 _ z => lst_of (z.1 _ _ gsl nslD)) ?_ ?_⟩
    · rintro i v σ H3 hi ⟨b3, cs, Cs, v6, v7, rfl, gD3, l3, P3, Q3⟩
      rw [List.getElem?_map] at hi
      obtain ⟨t, ht, rfl⟩ := Option.map_eq_some_iff.mp hi
      have htm := List.mem_of_getElem? ht
      have hi2 := (List.getElem?_eq_some_iff.mp ht).1
      obtain ⟨C, hC, gC⟩ := hT2.get htm
      obtain ⟨e, f, rfl, kC⟩ := tail_some ok hC
      have eB := dgB ok.le kC.1
      have fB := dgB ok.le kC.2.1
      have gC3 := bl_tup b3 gD2 gC
      have ha3 := bl_tup b3 gD2 ha2
      have hb3 := bl_tup b3 gD2 hb2
      have tC : SqT K H3 t [.int e, .int f] := tup_of gC3
      have tA : SqT K H3 a [.int x, .int y] := tup_of ha3
      have tB : SqT K H3 b [.int z, .int w] := tup_of hb3
      first | refine sigN [some (.int (p)), some (.ref ca), some (.ref a), some (.ref b), some (.ref lp), some (.ref D), some (.ref t), v7, none] (by rfl) ?_ | refine sig [some (.int (p)), some (.ref ca), some (.ref a), some (.ref b), some (.ref lp), some (.ref D), some (.ref t), v7, none] (by rfl) ?_
      refine ⟨_, rfl, t, _, 0, _, rfl, rfl, tC, rfl, _, rfl, a, _, 0, _, rfl, rfl, tA, rfl, _, _, rfl, rfl, _, rfl, b, _, 1, _, rfl, rfl, tB, rfl, _, rfl, a, _, 1, _, rfl, rfl, tA, rfl, _, _, rfl, rfl, _, _, rfl, rfl, (eB.sub xB).mulW (wB.sub yB) (by decide), ?_⟩
      first | refine sigN [some (.int (p)), some (.ref ca), some (.ref a), some (.ref b), some (.ref lp), some (.ref D), some (.ref t), some (.int ((e - x) * (w - y))), none] (by rfl) ?_ | refine sig [some (.int (p)), some (.ref ca), some (.ref a), some (.ref b), some (.ref lp), some (.ref D), some (.ref t), some (.int ((e - x) * (w - y))), none] (by rfl) ?_
      refine ⟨_, rfl, _, rfl, t, _, 1, _, rfl, rfl, tC, rfl, _, rfl, a, _, 1, _, rfl, rfl, tA, rfl, _, _, rfl, rfl, _, rfl, b, _, 0, _, rfl, rfl, tB, rfl, _, rfl, a, _, 0, _, rfl, rfl, tA, rfl, _, _, rfl, rfl, _, _, rfl, rfl, (fB.sub yB).mulW (zB.sub xB) (by decide), _, _, rfl, rfl, _, rfl, _, rfl, _, _, rfl, rfl, hp0, rfl, _, rfl, ?_⟩
      rw [dec_int]
      by_cases h0 : ((e - x) * (w - y) - (f - y) * (z - x)) % p = 0
      · refine iteY (by simpa using h0) ?_
        refine ⟨_, rfl, .inl ⟨rfl, _, lst_of gD3⟩, _, rfl, D, _, _, rfl, rfl, gD3, by rw [List.length_map]; rw [List.length_cons] at hl; exact small1000 (by omega), ?_⟩
        refine ⟨b3.trans But.upd, cs ++ [t], Cs ++ [some (e, f)], _, _, rfl, ?_, ?_, ?_, ?_⟩
        · rw [upd_same, List.map_append]
          rfl
        · rw [List.length_append]
          exact Nat.add_le_add_right l3 1
        · exact (P3.put gD3).app (.cons (by show upd H3 D _ t = _; rw [upd_ne (ne_of gC3 gD3 (by intro z; cases z))]; exact gC3) .nil)
        · intro C hC
          rcases List.mem_append.mp hC with hC | hC
          · exact Q3 C hC
          · rw [List.mem_singleton.mp hC]
            exact ⟨e, f, rfl, kC, h0⟩
      · refine iteN (by simpa using h0) ?_
        exact ⟨b3, cs, Cs, _, _, rfl, gD3, Nat.le_succ_of_le l3, P3, Q3⟩
    · rintro σ H3 ⟨b3, cs, Cs, v6, v7, rfl, gD3, l3, P3, Q3⟩
      have s03 : Same H H3 := fun t o ht => b3 t o (sA _ _ ht) (ne_of_none ht nD)
      have ha3 := bl_tup b3 gD2 ha2
      have hb3 := bl_tup b3 gD2 hb2
      rw [List.length_map] at l3
      refine ⟨_, rfl, D, rfl, ⟨_, lst_of gD3⟩, fun E nE => ?_⟩
      refine lc_list (K := K) (a := D) (xs := cs.map V.ref) (fun i H4 => Same H3 H4 ∧ ∃ (es : List Addr) (Es : List EcZ.Pt), H4 E = some (.lst (es.map V.ref)) ∧ es.length ≤ i ∧ PA K H4 es Es ∧ ∀ C ∈ Es, PtK p c C ∧ psum p c (some (x, y)) (some (z, w)) = pneg p c C) ⟨Same.new nE, [], [], upd_same, Nat.le_refl _, .nil, fun C hC => nomatch hC⟩ (fun i H4 _ z => lst_of (z.1 _ _ gD3)) (fun i v H4 hi zz => ?_) (fun H4 zz => ?_)
      · obtain ⟨s4, es, Es, gE, l4, P4, Q4⟩ := zz
        rw [List.getElem?_map] at hi
        obtain ⟨t, ht, rfl⟩ := Option.map_eq_some_iff.mp hi
        have htm := List.mem_of_getElem? ht
        have hi2 := (List.getElem?_eq_some_iff.mp ht).1
        obtain ⟨C, hC, gC⟩ := P3.get htm
        obtain ⟨e, f, rfl, kC, hln⟩ := Q3 C hC
        have gC4 := s4 _ _ gC
        refine ⟨rfl, _, rfl, _, rfl, _, rfl, (by show 2 ≤ sizeLine; decide), fun u nu => ?_⟩
        have s5 := Same.new (H := H4) (p := u) (o := .tup [.ref a, .ref b]) nu
        have gu : upd H4 u (.tup [.ref a, .ref b]) u = some (.tup [.ref a, .ref b]) := upd_same
        generalize upd H4 u (.tup [.ref a, .ref b]) = H5 at s5 gu ⊢
        have PAB : PA K H5 [a, b] [some (x, y), some (z, w)] := .cons (s5 _ _ (s4 _ _ ha3)) (.cons (s5 _ _ (s4 _ _ hb3)) .nil)
        refine ⟨dPt (some (e, f)), [dPt (some (x, y)), dPt (some (z, w))], dpt (s5 _ _ gC4 : HT K H5 t (some (e, f))), .tup (tup_of gu) (pa_dp PAB), shp _, sh_ptup [some (x, y), some (z, w)], _, rfl, ?_⟩
        have eA : (!([dPt (some (x, y)), dPt (some (z, w))].any fun d => PyData.eqv d (dPt (some (e, f))))) = !(decide ((some (x, y) : EcZ.Pt) = some (e, f)) || (decide ((some (z, w) : EcZ.Pt) = some (e, f)) || false)) := by
          rw [List.any_cons, List.any_cons, List.any_nil, eqv_pt, eqv_pt]
        rw [eA]
        have keep : Same H3 H5 := s4.trans s5
        have PE := P4.same s5
        have gE5 := s5 _ _ gE
        by_cases n1 : (some (x, y) : EcZ.Pt) = some (e, f)
        · rw [decide_eq_true n1]
          exact iteF ⟨keep, es, Es, gE5, Nat.le_succ_of_le l4, PE, Q4⟩
        by_cases n2 : (some (z, w) : EcZ.Pt) = some (e, f)
        · rw [decide_eq_true n2, decide_eq_false n1]
          exact iteF ⟨keep, es, Es, gE5, Nat.le_succ_of_le l4, PE, Q4⟩
        rw [decide_eq_false n1, decide_eq_false n2]
        refine iteT ⟨_, rfl, _, gE5, by rw [List.length_map]; rw [List.length_cons] at hl; exact small1000 (by omega), Same.put keep nE, es ++ [t], Es ++ [some (e, f)], ?_, ?_, ?_, ?_⟩
        · rw [upd_same, List.map_append]
          rfl
        · rw [List.length_append]
          exact Nat.add_le_add_right l4 1
        · exact (PE.put gE5).app (.cons (by show upd H5 E _ t = _; rw [upd_ne (ne_of (s5 _ _ gC4) gE5 (by intro z; cases z))]; exact s5 _ _ gC4) .nil)
        · intro C hC
          rcases List.mem_append.mp hC with hC | hC
          · exact Q4 C hC
          · rw [List.mem_singleton.mp hC]
            exact ⟨kC, third_is ok kA kB kC hxz hln (fun h => n1 h.symm) (fun h => n2 h.symm)⟩
      · obtain ⟨s4, es, Es, gE, l4, P4, Q4⟩ := zz
        refine ⟨_, rfl, (by show 0 ≤ sizeLine; decide), fun e0 ne0 => ?_⟩
        have s5 := Same.new (H := H4) (p := e0) (o := .lst []) ne0
        have g5 : upd H4 e0 (.lst []) e0 = some (.lst []) := upd_same
        generalize upd H4 e0 (.lst []) = H5 at s5 g5 ⊢
        have P5 := P4.same s5
        have gE5 := s5 _ _ gE
        refine ⟨.list (Es.map dPt), .list [], .lst (lst_of gE5) (pa_dp P5), .lst (lst_of g5) .nil, sh_pl Es, rfl, _, rfl, ?_⟩
        have sF := s03.trans (s4.trans s5)
        cases P5 with
        | nil => exact iteF (q _ _ sF (.inl rfl))
        | cons h t =>
          refine iteT ⟨_, rfl, E, _, 0, _, rfl, rfl, lst_of gE5, atI_nat (j := 0) rfl, ?_⟩
          obtain ⟨k1, k2⟩ := Q4 _ List.mem_cons_self
          exact q _ _ sF (.inr ⟨_, _, rfl, h, k1, k2⟩)
def sp_law_line_third (K : PySem.W.Frag) : Sp := fun vs H Q _ => ∃ (p : Int) (c : C5) (ca a b : Addr) (A B : EcZ.Pt), vs = [.int p, .ref ca, .ref a, .ref b] ∧ Okc p c ∧ SqT K H ca (cL c) ∧ HT K H a A ∧ HT K H b B ∧ PtK p c A ∧ PtK p c B ∧ ∀ H' v, Same H H' → Third K H' p c A B v → Q v H'
abbrev s__law_line_third : Stmt := topS 17
theorem sc__law_line_third : FnScope ["p", "five", "one", "two", "all_points", "other"] ["p", "five", "one", "two"] (defScope s__law_line_third) := ⟨rfl, rfl, rfl, by decide +kernel, rfl, by decide +kernel, by decide +kernel⟩
theorem k_law_line_third (T : Tx K mg) (D : Df K mg "_law_line_third" s__law_line_third ["p", "five", "one", "two"]) (c_law_p_points : Kl P w K mg base 1 "_law_p_points" (sp_law_p_points K)) (c_law_p_turned : Kl P w K mg base 1 "_law_p_turned" (sp_law_p_turned K)) (c_law_on_line : Kl P w K mg base 1 "_law_on_line" (sp_law_on_line K)) : Kl P w K mg base 2 "_law_line_third" (sp_law_line_third K) := by
  have nd := sc__law_line_third.nd
  refine Kl.by_body D sc__law_line_third (fun vs H Q E h => ?_) (fun f cdv A outer s H vs Q E hr h => ?_)
  · obtain ⟨_, _, _, _, _, _, _, rfl, _⟩ := h
    rfl
  · obtain ⟨p, c, ca, a, b, A, A2, rfl, ok, hc, ha, hb, kA, kB, q⟩ := h
    have hu1 := hu_of hr
    refine ⟨_, (pss_cons (ps_set (i := 4) nd rfl (by first | exact Or.inl rfl | exact Or.inr rfl) (pe_k c_law_p_points  hr (by decide) (by rfl) (pa_cons (pv 0) (pa_cons (pv 1) pa_nil))))
      (pss_cons (ps_if (PW.pt (pw_or (pt_cmpR (op_eqD hr.units) (pv 2) (pe_tup pa_nil) (nomark _)) (pw_or1 (pt_cmpR (op_eqD hr.units) (pv 3) (pe_tup pa_nil) (nomark _))))) (pss_cons (ps_set (i := 5) nd rfl (by first | exact Or.inl rfl | exact Or.inr rfl) (pe_ifExp (pt_cmpR (op_eqD hr.units) (pv 3) (pe_tup pa_nil) (nomark _)) (pv 2) (pv 3)))
      (pss_one (ps_ret (pe_k c_law_p_turned  hr (by decide) (by rfl) (pa_cons (pv 0) (pa_cons (pv 1) (pa_cons (pv 5) pa_nil))))))) pss_nil)
      (pss_cons (ps_if (PW.pt (pw_and (pt_cmpR op_eq (pe_ix ix_tup (pv 2) pe_int (fun _ _ => rfl)) (pe_ix ix_tup (pv 3) pe_int (fun _ _ => rfl)) (nomark _)) (pw_and1 (pt_cmpR (op_neD hr.units) (pv 2) (pv 3) (nomark _))))) (pss_one (ps_ret (pe_tup pa_nil))) pss_nil)
      (pss_one (ps_ret (pe_ifExp (pt_cmpR (op_eqD hr.units) (pv 2) (pv 3) (nomark _)) pe_non (pe_k c_law_on_line  hr (by decide) (by rfl) (pa_cons (pv 0) (pa_cons (pv 1) (pa_cons (pv 2) (pa_cons (pv 3) (pa_cons (pv 4) pa_nil)))))))))))), ?_⟩
    have hp0 := ok.p0
    refine ⟨_, rfl, _, rfl, p, c, ca, rfl, ok, hc, fun H0 lp bs s0 hlp hP hl => ?_⟩
    first | refine sigN [some (.int (p)), some (.ref ca), some (.ref a), some (.ref b), some (.ref lp), none] (by rfl) ?_ | refine sig [some (.int (p)), some (.ref ca), some (.ref a), some (.ref b), some (.ref lp), none] (by rfl) ?_
    replace hc := Same.tup s0 hc
    replace ha := s0 _ _ ha
    replace hb := s0 _ _ hb
    refine ⟨_, rfl, (by show 0 ≤ sizeLine; decide), fun e ne => ?_⟩
    have s1 := Same.new (H := H0) (p := e) (o := .tup []) ne
    have ge : upd H0 e (.tup []) e = some (.tup []) := upd_same
    generalize upd H0 e (.tup []) = H1 at s1 ge ⊢
    replace hc := Same.tup s1 hc
    replace ha := s1 _ _ ha
    replace hb := s1 _ _ hb
    refine ⟨dPt A, .tuple [], dpt ha, dp0 (tup_of ge), shp A, rfl, _, rfl, ?_⟩
    rw [eqv_pt0]
    match A, ha, kA, q with
    | none, ha, kA, q =>
      refine iteY rfl ?_
      refine ⟨_, rfl, (by show 0 ≤ sizeLine; decide), fun e2 ne2 => ?_⟩
      have s2 := Same.new (H := H1) (p := e2) (o := .tup []) ne2
      have ge2 : upd H1 e2 (.tup []) e2 = some (.tup []) := upd_same
      generalize upd H1 e2 (.tup []) = H2 at s2 ge2 ⊢
      refine ⟨dPt A2, .tuple [], dpt (s2 _ _ hb), dp0 (tup_of ge2), shp A2, rfl, _, rfl, ?_⟩
      rw [eqv_pt0]
      have s02 := s0.trans (s1.trans s2)
      have fin : ∀ o O, HT K H2 o O → PtK p c O → A2 = O → ∀ H' t, Same H2 H' → HT K H' t (pneg p c O) → Q (.ref t) H' := fun o O ho kO eO H' t s' h' =>
        q _ _ (s02.trans s') (.inr ⟨t, _, rfl, h', pneg_ok hp0 kO, by rw [pneg_pneg hp0 kO]; exact eO⟩)
      by_cases g : A2 = none
      · refine iteY (decide_eq_true g) ⟨_, rfl, ?_⟩
        refine ⟨_, rfl, _, rfl, _, rfl, p, c, ca, a, none, rfl, ok, Same.tup s2 hc, s2 _ _ ha, trivial, fun H' t s' h' => fin a none (s2 _ _ ha) trivial g H' t s' h'⟩
      · refine iteN (by simpa using g) ⟨_, rfl, ?_⟩
        refine ⟨_, rfl, _, rfl, _, rfl, p, c, ca, b, A2, rfl, ok, Same.tup s2 hc, s2 _ _ hb, kB.dgp, fun H' t s' h' => fin b A2 (s2 _ _ hb) kB rfl H' t s' h'⟩
    | some (x, y), ha, kA, q =>
      refine iteN (by simp) ?_
      refine ⟨_, rfl, (by show 0 ≤ sizeLine; decide), fun e2 ne2 => ?_⟩
      have s2 := Same.new (H := H1) (p := e2) (o := .tup []) ne2
      have ge2 : upd H1 e2 (.tup []) e2 = some (.tup []) := upd_same
      generalize upd H1 e2 (.tup []) = H2 at s2 ge2 ⊢
      replace hc := Same.tup s2 hc
      replace ha := s2 _ _ ha
      replace hb := s2 _ _ hb
      have s02 := s0.trans (s1.trans s2)
      refine ⟨dPt A2, .tuple [], dpt hb, dp0 (tup_of ge2), shp A2, rfl, _, rfl, ?_⟩
      rw [eqv_pt0]
      match A2, hb, kB, q with
      | none, hb, kB, q =>
        refine iteY rfl ?_
        refine ⟨_, rfl, (by show 0 ≤ sizeLine; decide), fun e3 ne3 => ?_⟩
        have s3 := Same.new (H := H2) (p := e3) (o := .tup []) ne3
        have ge3 : upd H2 e3 (.tup []) e3 = some (.tup []) := upd_same
        generalize upd H2 e3 (.tup []) = H3 at s3 ge3 ⊢
        refine ⟨dPt none, .tuple [], dpt (A := none) (s3 _ _ hb), dp0 (tup_of ge3), rfl, rfl, _, rfl, iteT ⟨_, rfl, ?_⟩⟩
        refine ⟨_, rfl, _, rfl, _, rfl, p, c, ca, a, some (x, y), rfl, ok, Same.tup s3 hc, s3 _ _ ha, kA.dgp, fun H' t s' h' => ?_⟩
        refine q _ _ ((s02.trans s3).trans s') (.inr ⟨t, _, rfl, h', pneg_ok hp0 kA, ?_⟩)
        rw [pneg_pneg hp0 kA]
        rfl
      | some (z, w), hb, kB, q =>
        refine iteN (by simp) ?_
        have tA : SqT K H2 a [.int x, .int y] := tup_of ha
        have tB : SqT K H2 b [.int z, .int w] := tup_of hb
        refine ⟨_, rfl, a, _, 0, _, rfl, rfl, tA, rfl, _, rfl, b, _, 0, _, rfl, rfl, tB, rfl, rfl, _, rfl, ?_⟩
        rw [dec_int]
        by_cases hxz : x = z
        · refine iteY (by simpa using hxz) ?_
          refine ⟨_, rfl, _, rfl, dPt (some (x, y)), dPt (some (z, w)), dpt (A := some (x, y)) ha, dpt (A := some (z, w)) hb, shp _, shp _, _, rfl, ?_⟩
          rw [eqv_pt]
          by_cases he : (some (x, y) : EcZ.Pt) = some (z, w)
          · rw [decide_eq_true he]
            refine iteF ?_
            refine ⟨_, rfl, _, rfl, dPt (some (x, y)), dPt (some (z, w)), dpt (A := some (x, y)) ha, dpt (A := some (z, w)) hb, shp _, shp _, _, rfl, ?_⟩
            rw [eqv_pt, decide_eq_true he]
            exact iteT (q _ _ s02 (.inl rfl))
          · rw [decide_eq_false he]
            refine iteT ?_
            refine ⟨(by show 0 ≤ sizeLine; decide), fun t nt => ?_⟩
            refine q _ _ (s02.trans (Same.new nt)) (.inr ⟨t, none, rfl, upd_same, trivial, ?_⟩)
            subst hxz
            have hop : w = (-y - c.a1 * x - c.a3) % p := Classical.byContradiction fun hn => he (by rw [same_y ok.pp kA kB hn])
            exact psum_opp rfl hop
        · refine iteN (by simpa using hxz) ?_
          refine ⟨_, rfl, _, rfl, dPt (some (x, y)), dPt (some (z, w)), dpt (A := some (x, y)) ha, dpt (A := some (z, w)) hb, shp _, shp _, _, rfl, ?_⟩
          have he : ¬((some (x, y) : EcZ.Pt) = some (z, w)) := fun h => hxz (congrArg Prod.fst (Option.some.inj h))
          rw [eqv_pt, decide_eq_false he]
          refine iteF ?_
          have s12 := s1.trans s2
          refine ⟨_, rfl, _, rfl, _, rfl, _, rfl, _, rfl, p, c, ca, a, b, lp, x, y, z, w, bs, rfl, ok, ha, hb, kA, kB, hxz, s12 _ _ hlp, hP.same s12, hl, fun H' v s' h' => q _ _ (s02.trans s') h'⟩
end
end K41
set_option Elab.async false
set_option linter.all false
set_option maxRecDepth 100000
set_option maxHeartbeats 4000000
namespace K41
open PySem PySem.Spec PyProof.Rows L2 Gd QM K45M EcZ
theorem dg_log {p u : Int} (hp : p ≤ 31) (h : Dg p u) : decide (u.natAbs.log2 < 1920) = true := by
  unfold Dg at h
  refine decide_eq_true ?_
  have hu : u.natAbs < 2 ^ 5 := by omega
  rcases Nat.eq_zero_or_pos u.natAbs with e | e
  · rw [e]
    decide
  · exact Nat.lt_of_lt_of_le ((Nat.log2_lt (by omega)).mpr hu) (by decide)
theorem rd_pt {p : Int} (hp : p ≤ 31) {A : EcZ.Pt} (h : Dgp p A) : okD (dPt A) = true ∧ (dPt A).depth ≤ 40 ∧ wt (dPt A) ≤ 1000000 := by
  match A, h with
  | none, _ => exact ⟨rfl, by decide +kernel, by decide +kernel⟩
  | some (x, y), h =>
    refine ⟨?_, ?_, ?_⟩
    · show okD (.tuple [.int x, .int y]) = true
      simp only [okD, okAll, dg_log hp h.1, dg_log hp h.2, Bool.and_self]
    · show (PyData.tuple [.int x, .int y]).depth ≤ 40
      simp [PyData.depth, PyData.depthAll]
    · show wt (.tuple [.int x, .int y]) ≤ 1000000
      simp [wt, wtAll]
theorem psum_ng {p : Int} {c : C5} {A B C : EcZ.Pt} (h : psum p c A B = pneg p c C) : decide (psum p c A B = pneg p c C) = true := decide_eq_true h
section
variable {P : Program} {w : World} {K : PySem.W.Frag} {mg : Str → Option Value} {base : Heap}
def sp_law_sums_right (K : PySem.W.Frag) : Sp := fun vs H Q _ => ∃ (p : Int) (c : C5) (ca lp : Addr) (bs : List Addr), vs = [.int p, .ref ca, .ref lp] ∧ Okc p c ∧ SqT K H ca (cL c) ∧ H lp = some (.lst (bs.map V.ref)) ∧ PsAt K H p c bs ∧ ∀ H', Same H H' → Q (.bl true) H'
abbrev s__law_sums_right : Stmt := topS 19
theorem sc__law_sums_right : FnScope ["p", "five", "points", "one", "two", "told", "third"] ["p", "five", "points"] (defScope s__law_sums_right) := ⟨rfl, rfl, rfl, by decide +kernel, rfl, by decide +kernel, by decide +kernel⟩
theorem k_law_sums_right (T : Tx K mg) (D : Df K mg "_law_sums_right" s__law_sums_right ["p", "five", "points"]) (c_added_over : Kl P w K mg base 2 "added_over" (sp_added_over K)) (c_law_line_third : Kl P w K mg base 2 "_law_line_third" (sp_law_line_third K)) (c_opposite_over : Kl P w K mg base 1 "opposite_over" (sp_opposite_over K)) (c_law_p_turned : Kl P w K mg base 1 "_law_p_turned" (sp_law_p_turned K)) (c_law_p_sum : Kl P w K mg base 2 "_law_p_sum" (sp_law_p_sum K)) : Kg P w K mg base 3 "_law_sums_right" (sp_law_sums_right K) := by
  have nd := sc__law_sums_right.nd
  refine Kg.by_body D sc__law_sums_right (fun vs H Q E h => ?_) (fun f cdv A outer s H vs Q E hgd hr h => ?_)
  · obtain ⟨_, _, _, _, _, rfl, _⟩ := h
    rfl
  · obtain ⟨p, c, ca, lp, bs, rfl, ok, hc, hlp, hP, q⟩ := h
    have hu1 := hu_of hr
    refine ⟨_, (pss_cons (ps_for PassesOwn.never rfl (pi_list (pv 2)) (pg_name (i := 3) nd rfl (by first | exact Or.inl rfl | exact Or.inr rfl)) (pss_cons (ps_if (pt_cmpR op_ne (pe_callB (call_reprD hgd hr.units) (by rfl) T.repr (by decide +kernel) (pa_cons (pe_k c_opposite_over  hr (by decide) (by rfl) (pa_cons (pv 0) (pa_cons (pv 1) (pa_cons (pv 3) pa_nil)))) pa_nil)) (pe_callB (call_reprD hgd hr.units) (by rfl) T.repr (by decide +kernel) (pa_cons (pe_k c_law_p_turned  hr (by decide) (by rfl) (pa_cons (pv 0) (pa_cons (pv 1) (pa_cons (pv 3) pa_nil)))) pa_nil)) (nomark _)) (pss_one (ps_ret pe_bl)) pss_nil)
      (pss_one (ps_for PassesOwn.never rfl (pi_list (pv 2)) (pg_name (i := 4) nd rfl (by first | exact Or.inl rfl | exact Or.inr rfl)) (pss_cons (ps_set (i := 5) nd rfl (by first | exact Or.inl rfl | exact Or.inr rfl) (pe_k c_added_over  hr (by decide) (by rfl) (pa_cons (pv 0) (pa_cons (pv 1) (pa_cons (pv 3) (pa_cons (pv 4) pa_nil))))))
      (pss_cons (ps_if (pt_cmpR op_ne (pe_callB (call_reprD hgd hr.units) (by rfl) T.repr (by decide +kernel) (pa_cons (pv 5) pa_nil)) (pe_callB (call_reprD hgd hr.units) (by rfl) T.repr (by decide +kernel) (pa_cons (pe_k c_law_p_sum  hr (by decide) (by rfl) (pa_cons (pv 0) (pa_cons (pv 1) (pa_cons (pv 3) (pa_cons (pv 4) pa_nil))))) pa_nil)) (nomark _)) (pss_one (ps_ret pe_bl)) pss_nil)
      (pss_cons (ps_set (i := 6) nd rfl (by first | exact Or.inl rfl | exact Or.inr rfl) (pe_k c_law_line_third  hr (by decide) (by rfl) (pa_cons (pv 0) (pa_cons (pv 1) (pa_cons (pv 3) (pa_cons (pv 4) pa_nil))))))
      (pss_one (ps_if (PW.pt (pw_and (pt_cmpR op_notN (pv 6) pe_non (nomark _)) (pw_and1 (pt_cmpR (op_neD hr.units) (pv 5) (pe_k c_law_p_turned  hr (by decide) (by rfl) (pa_cons (pv 0) (pa_cons (pv 1) (pa_cons (pv 6) pa_nil)))) (nomark _))))) (pss_one (ps_ret pe_bl)) pss_nil)))))))))
      (pss_one (ps_ret pe_bl))), ?_⟩
    have hp9 := ok.le
    have hp0 := ok.p0
    refine ⟨_, rfl, lp, rfl, ⟨_, lst_of hlp⟩, for_list (K := K) (a := lp) (xs := bs.map V.ref) (fun i σ H1 => Same H H1 ∧ ∃ v3 v4 v5 v6 : Option V, σ = [some (.int p), some (.ref ca), some (.ref lp), v3, v4, v5, v6]) ⟨Same.refl _, none, none, none, none, rfl⟩ (fun i σ H1 _ z => lst_of (z.1 _ _ hlp)) ?_ ?_⟩
    · rintro i v σ H1 hi ⟨s1, v3, v4, v5, v6, rfl⟩
      rw [List.getElem?_map] at hi
      obtain ⟨b, hb, rfl⟩ := Option.map_eq_some_iff.mp hi
      obtain ⟨A, gA, kA⟩ := hP b (List.mem_of_getElem? hb)
      first | refine sigN [some (.int (p)), some (.ref ca), some (.ref lp), some (.ref b), v4, v5, v6] (by rfl) ?_ | refine sig [some (.int (p)), some (.ref ca), some (.ref lp), some (.ref b), v4, v5, v6] (by rfl) ?_
      have hc1 := Same.tup s1 hc
      have gA1 := s1 _ _ gA
      obtain ⟨k1, k2, k3⟩ := rd_pt hp9 (pneg_ok (c := c) hp0 kA).dgp
      refine ⟨_, rfl, _, rfl, _, rfl, p, c, ca, b, A, rfl, ok, hc1, gA1, kA, fun H2 t s2 h2 => ⟨_, _, rfl, dpt h2, k1, k2, k3, ?_⟩⟩
      refine ⟨_, rfl, _, rfl, _, rfl, p, c, ca, b, A, rfl, ok, Same.tup s2 hc1, s2 _ _ gA1, kA.dgp, fun H3 t' s3 h3 => ⟨_, _, rfl, dpt h3, k1, k2, k3, ?_⟩⟩
      generalize (dPt (pneg p c A)).shown = S
      refine ⟨rfl, _, rfl, iteN (by simp) ?_⟩
      have s03 := s1.trans (s2.trans s3)
      have hlp3 := s03 _ _ hlp
      refine ⟨_, rfl, lp, rfl, ⟨_, lst_of hlp3⟩, for_list (K := K) (a := lp) (xs := bs.map V.ref) (fun i σ H4 => Same H3 H4 ∧ ∃ v4 v5 v6 : Option V, σ = [some (.int p), some (.ref ca), some (.ref lp), some (.ref b), v4, v5, v6]) ⟨Same.refl _, v4, v5, v6, rfl⟩ (fun i σ H4 _ z => lst_of (z.1 _ _ hlp3)) ?_ ?_⟩
      · rintro i2 v σ H4 hi2 ⟨s4, v4, v5, v6, rfl⟩
        rw [List.getElem?_map] at hi2
        obtain ⟨b2, hb2, rfl⟩ := Option.map_eq_some_iff.mp hi2
        obtain ⟨A2, gA2, kA2⟩ := hP b2 (List.mem_of_getElem? hb2)
        first | refine sigN [some (.int (p)), some (.ref ca), some (.ref lp), some (.ref b), some (.ref b2), v5, v6] (by rfl) ?_ | refine sig [some (.int (p)), some (.ref ca), some (.ref lp), some (.ref b), some (.ref b2), v5, v6] (by rfl) ?_
        have s04 := s03.trans s4
        have hc4 := Same.tup s04 hc
        have gA4 := s04 _ _ gA
        have gB4 := s04 _ _ gA2
        have kS := ok.sum kA kA2
        obtain ⟨k1, k2, k3⟩ := rd_pt hp9 kS.dgp
        refine ⟨_, rfl, _, rfl, _, rfl, _, rfl, p, c, ca, b, b2, A, A2, rfl, ok, hc4, gA4, gB4, kA, kA2, fun H5 t s5 h5 => ?_⟩
        first | refine sigN [some (.int (p)), some (.ref ca), some (.ref lp), some (.ref b), some (.ref b2), some (.ref t), v6] (by rfl) ?_ | refine sig [some (.int (p)), some (.ref ca), some (.ref lp), some (.ref b), some (.ref b2), some (.ref t), v6] (by rfl) ?_
        have s05 := s04.trans s5
        refine ⟨_, rfl, _, _, rfl, dpt h5, k1, k2, k3, ?_⟩
        refine ⟨_, rfl, _, rfl, _, rfl, _, rfl, p, c, ca, b, b2, A, A2, rfl, ok, Same.tup s05 hc, s05 _ _ gA, s05 _ _ gA2, kA, kA2, fun H6 t' s6 h6 => ⟨_, _, rfl, dpt h6, k1, k2, k3, ?_⟩⟩
        generalize (dPt (psum p c A A2)).shown = S
        refine ⟨rfl, _, rfl, iteN (by simp) ?_⟩
        have s06 := s05.trans s6
        refine ⟨_, rfl, _, rfl, _, rfl, _, rfl, p, c, ca, b, b2, A, A2, rfl, ok, Same.tup s06 hc, s06 _ _ gA, s06 _ _ gA2, kA, kA2, fun H7 v s7 hv => ?_⟩
        first | refine sigN [some (.int (p)), some (.ref ca), some (.ref lp), some (.ref b), some (.ref b2), some (.ref t), some v] (by rfl) ?_ | refine sig [some (.int (p)), some (.ref ca), some (.ref lp), some (.ref b), some (.ref b2), some (.ref t), some v] (by rfl) ?_
        have s07 := s06.trans s7
        have s37 : Same H3 H7 := s4.trans (s5.trans (s6.trans s7))
        refine ⟨v, rfl, rfl, _, rfl, ?_⟩
        rcases hv with rfl | ⟨u, C, rfl, gC, kC, e⟩
        · refine iteF ?_
          exact ⟨s37, _, _, _, rfl⟩
        · refine iteT ?_
          refine ⟨_, rfl, _, rfl, _, rfl, _, rfl, p, c, ca, u, C, rfl, ok, Same.tup s07 hc, gC, kC.dgp, fun H8 t8 s8 h8 => ?_⟩
          refine ⟨dPt (psum p c A A2), dPt (pneg p c C), dpt (s8 _ _ (s7 _ _ (s6 _ _ h5))), dpt h8, shp _, shp _, _, rfl, ?_⟩
          rw [eqv_pt, decide_eq_true e]
          refine iteF ?_
          exact ⟨s37.trans s8, _, _, _, rfl⟩
      · rintro σ H4 ⟨s4, v4, v5, v6, rfl⟩
        exact ⟨s03.trans s4, _, _, _, _, rfl⟩
    · rintro σ H1 ⟨s1, v3, v4, v5, v6, rfl⟩
      exact q _ s1
def sp_law_multiple0 (K : PySem.W.Frag) : Sp := fun vs H Q _ => ∃ (p : Int) (c : C5) (ca a : Addr) (n : Nat) (A : EcZ.Pt), vs = [.int p, .ref ca, .int (n : Int), .ref a] ∧ Okc p c ∧ SqT K H ca (cL c) ∧ B 80 (n : Int) ∧ HT K H a A ∧ PtK p c A ∧ ∀ H' t, Same H H' → HT K H' t (smul p c A n) → Q (.ref t) H'
abbrev s__law_multiple : Stmt := topS 20
theorem sc__law_multiple : FnScope ["p", "five", "n", "point", "found", "step"] ["p", "five", "n", "point"] (defScope s__law_multiple) := ⟨rfl, rfl, rfl, by decide +kernel, rfl, by decide +kernel, by decide +kernel⟩
theorem k_law_multiple0 (T : Tx K mg) (D : Df K mg "_law_multiple" s__law_multiple ["p", "five", "n", "point"]) (c_law_p_turned : Kl P w K mg base 1 "_law_p_turned" (sp_law_p_turned K)) (c_law_p_sum : Kl P w K mg base 2 "_law_p_sum" (sp_law_p_sum K)) : Kl P w K mg base 3 "_law_multiple" (sp_law_multiple0 K) := by
  have nd := sc__law_multiple.nd
  refine Kl.by_body D sc__law_multiple (fun vs H Q E h => ?_) (fun f cdv A outer s H vs Q E hr h => ?_)
  · obtain ⟨_, _, _, _, _, _, rfl, _⟩ := h
    rfl
  · obtain ⟨p, c, ca, a, n, A, rfl, ok, hc, hn, ha, kA, q⟩ := h
    have c_law_multiple : Kl P w K mg base (0 + 1) "_law_multiple" (fun _ _ _ _ => False) := Kl.by_body D sc__law_multiple (fun _ _ _ _ h => h.elim) (fun _ _ _ _ _ _ _ _ _ _ h => h.elim)
    have hu1 := hu_of hr
    refine ⟨_, (pss_cons (ps_if (pt_cmpR op_lt (pv 2) pe_int (nomark _)) (pss_one (ps_ret (pe_k c_law_multiple  hr (by decide) (by rfl) (pa_cons (pv 0) (pa_cons (pv 1) (pa_cons (pe_un un_neg (pv 2)) (pa_cons (pe_k c_law_p_turned  hr (by decide) (by rfl) (pa_cons (pv 0) (pa_cons (pv 1) (pa_cons (pv 3) pa_nil)))) pa_nil))))))) pss_nil)
      (pss_cons (ps_par (i := 4) (j := 5) (by rfl) nd rfl rfl (by decide) rfl rfl (pa_cons (pe_tup pa_nil) (pa_cons (pv 3) pa_nil)) (by rfl))
      (pss_cons (ps_while PassesOwn.never (pt_cmpR op_gt (pv 2) pe_int (nomark _)) (C8.pss_cut (ps_set (i := 4) nd rfl (by first | exact Or.inl rfl | exact Or.inr rfl) (pe_ifExp (pt_cmpR op_ne (pe_op op_mul (pe_op op_fdiv (pv 2) pe_int) pe_int) (pv 2) (nomark _)) (pe_k c_law_p_sum  hr (by decide) (by rfl) (pa_cons (pv 0) (pa_cons (pv 1) (pa_cons (pv 4) (pa_cons (pv 5) pa_nil))))) (pv 4)))
      (pss_one (ps_par (i := 2) (j := 5) (by rfl) nd rfl rfl (by decide) rfl rfl (pa_cons (pe_op op_fdiv (pv 2) pe_int) (pa_cons (pe_k c_law_p_sum  hr (by decide) (by rfl) (pa_cons (pv 0) (pa_cons (pv 1) (pa_cons (pv 5) (pa_cons (pv 5) pa_nil))))) pa_nil)) (by rfl)))))
      (pss_one (ps_ret (pv 4)))))), ?_⟩
    refine ⟨_, rfl, _, _, rfl, rfl, _, rfl, iteN (by simp) ?_⟩
    refine ⟨(by show 0 ≤ sizeLine; decide), fun r nr => ?_⟩
    have s1 := Same.new (H := H) (p := r) (o := .tup []) nr
    have gr : upd H r (.tup []) r = some (.tup []) := upd_same
    generalize upd H r (.tup []) = H1 at s1 gr ⊢
    refine ⟨_, rfl, _, _, rfl, ?_⟩
    first | refine sigN [some (.int (p)), some (.ref ca), some (.int ((n : Int))), some (.ref a), some (.ref r), some (.ref a)] (by rfl) ?_ | refine sig [some (.int (p)), some (.ref ca), some (.int ((n : Int))), some (.ref a), some (.ref r), some (.ref a)] (by rfl) ?_
    refine while_by (fun σ H2 => Same H1 H2 ∧ ∃ (j : Nat) (d f : Addr) (D R : EcZ.Pt), σ = [some (.int p), some (.ref ca), some (.int (j : Int)), some (.ref a), some (.ref f), some (.ref d)] ∧ HT K H2 d D ∧ HT K H2 f R ∧ PtK p c D ∧ PtK p c R ∧ psum p c R (smul p c D j) = smul p c A n)
      (fun σ _ => match σ with | [_, _, some (.int j), _, _, _] => j.toNat | _ => 0) ⟨Same.refl _, n, a, r, A, none, rfl, s1 _ _ ha, gr, kA, trivial, rfl⟩ ?_ ?_
    · rintro σ H2 ⟨s2, j, d, f, D, R, rfl, hd, hf, kD, kR, e⟩
      refine ⟨_, rfl, _, _, rfl, rfl, _, rfl, ?_⟩
      by_cases hj : j = 0
      · subst hj
        refine iteN (by simp) ?_
        refine ⟨_, rfl, q _ f (s1.trans s2) ?_⟩
        rw [← e, show smul p c D 0 = none from rfl, psum_none]
        exact hf
      · refine iteY (by simp; omega) ?_
        have hc2 := Same.tup s2 (Same.tup s1 hc)
        have hsh : (j : Int) / 2 = ((j / 2 : Nat) : Int) := by omega
        refine ⟨fun σ' H3 => Same H2 H3 ∧ ∃ (f' : Addr) (R' : EcZ.Pt), σ' = [some (.int p), some (.ref ca), some (.int (j : Int)), some (.ref a), some (.ref f'), some (.ref d)] ∧ HT K H3 f' R' ∧ PtK p c R' ∧ psum p c R' (smul p c (psum p c D D) (j / 2)) = smul p c A n, ?_, ?_⟩
        · refine ⟨_, rfl, _, _, rfl, rfl, ⟨by decide, by decide⟩, _, _, rfl, rfl, (Or.inr ⟨by decide, by decide⟩), _, rfl, rfl, _, rfl, ?_⟩
          rw [dec_int]
          by_cases hp : j % 2 = 1
          · refine iteY (by simp; omega) ?_
            refine ⟨_, rfl, _, rfl, _, rfl, _, rfl, p, c, ca, f, d, R, D, rfl, ok, hc2, hf, hd, kR, kD, fun H3 t s3 h3 => ?_⟩
            exact ⟨s3, t, _, rfl, h3, ok.sum kR kD, (smul_odd ok kD kR hp).trans e⟩
          · refine iteN (by simp; omega) ?_
            exact ⟨_, rfl, Same.refl _, f, R, rfl, hf, kR, (smul_even ok kD (by omega)).trans e⟩
        · rintro σ' H3 ⟨s3, f', R', rfl, hf3, kR', e3⟩
          have hd3 := s3 _ _ hd
          refine ⟨_, rfl, _, _, rfl, rfl, ⟨by decide, by decide⟩, _, rfl, _, rfl, _, rfl, _, rfl, p, c, ca, d, d, D, D, rfl, ok, Same.tup s3 hc2, hd3, hd3, kD, kD, fun H4 t s4 h4 => ⟨_, _, rfl, ?_⟩⟩
          refine ⟨⟨s2.trans (s3.trans s4), j / 2, t, f', _, R', by rw [← hsh]; rfl, h4, s4 _ _ hf3, ok.sum kD kD, kR', e3⟩, ?_⟩
          show ((j : Int) / 2).toNat < (j : Int).toNat
          omega
    · rintro σ H2 Q1 Q2 i ⟨v, hv, x, y, e1, e2, b, e3, z⟩
      exact ⟨v, hv, x, y, e1, e2, b, e3, i _ _ z⟩
def sp_law_multiple (K : PySem.W.Frag) : Sp := fun vs H Q _ => ∃ (p : Int) (c : C5) (ca a : Addr) (n : Int) (A : EcZ.Pt), vs = [.int p, .ref ca, .int n, .ref a] ∧ Okc p c ∧ SqT K H ca (cL c) ∧ B 80 n ∧ HT K H a A ∧ PtK p c A ∧ ∀ H' t, Same H H' → HT K H' t (zmul p c A n) → Q (.ref t) H'
theorem k_law_multiple (T : Tx K mg) (D : Df K mg "_law_multiple" s__law_multiple ["p", "five", "n", "point"]) (c_law_p_turned : Kl P w K mg base 1 "_law_p_turned" (sp_law_p_turned K)) (c_law_p_sum : Kl P w K mg base 2 "_law_p_sum" (sp_law_p_sum K)) : Kl P w K mg base 4 "_law_multiple" (sp_law_multiple K) := by
  have nd := sc__law_multiple.nd
  refine Kl.by_body D sc__law_multiple (fun vs H Q E h => ?_) (fun f cdv A outer s H vs Q E hr h => ?_)
  · obtain ⟨_, _, _, _, _, _, rfl, _⟩ := h
    rfl
  · obtain ⟨p, c, ca, a, n, A, rfl, ok, hc, hn, ha, kA, q⟩ := h
    have c_law_multiple := k_law_multiple0 T D c_law_p_turned c_law_p_sum
    have hu1 := hu_of hr
    refine ⟨_, (pss_cons (ps_if (pt_cmpR op_lt (pv 2) pe_int (nomark _)) (pss_one (ps_ret (pe_k c_law_multiple  hr (by decide) (by rfl) (pa_cons (pv 0) (pa_cons (pv 1) (pa_cons (pe_un un_neg (pv 2)) (pa_cons (pe_k c_law_p_turned  hr (by decide) (by rfl) (pa_cons (pv 0) (pa_cons (pv 1) (pa_cons (pv 3) pa_nil)))) pa_nil))))))) pss_nil)
      (pss_cons (ps_par (i := 4) (j := 5) (by rfl) nd rfl rfl (by decide) rfl rfl (pa_cons (pe_tup pa_nil) (pa_cons (pv 3) pa_nil)) (by rfl))
      (pss_cons (ps_while PassesOwn.never (pt_cmpR op_gt (pv 2) pe_int (nomark _)) (C8.pss_cut (ps_set (i := 4) nd rfl (by first | exact Or.inl rfl | exact Or.inr rfl) (pe_ifExp (pt_cmpR op_ne (pe_op op_mul (pe_op op_fdiv (pv 2) pe_int) pe_int) (pv 2) (nomark _)) (pe_k c_law_p_sum  hr (by decide) (by rfl) (pa_cons (pv 0) (pa_cons (pv 1) (pa_cons (pv 4) (pa_cons (pv 5) pa_nil))))) (pv 4)))
      (pss_one (ps_par (i := 2) (j := 5) (by rfl) nd rfl rfl (by decide) rfl rfl (pa_cons (pe_op op_fdiv (pv 2) pe_int) (pa_cons (pe_k c_law_p_sum  hr (by decide) (by rfl) (pa_cons (pv 0) (pa_cons (pv 1) (pa_cons (pv 5) (pa_cons (pv 5) pa_nil))))) pa_nil)) (by rfl)))))
      (pss_one (ps_ret (pv 4)))))), ?_⟩
    refine ⟨_, rfl, _, _, rfl, rfl, _, rfl, ?_⟩
    by_cases h0 : n < 0
    · refine iteY (decide_eq_true h0) ?_
      refine ⟨_, rfl, _, rfl, _, rfl, _, rfl, _, rfl, _, rfl, _, rfl, p, c, ca, a, A, rfl, ok, hc, ha, kA.dgp, fun H1 t s1 h1 => ?_⟩
      refine ⟨p, c, ca, t, (-n).toNat, pneg p c A, ?_, ok, Same.tup s1 hc, ?_, h1, pneg_ok ok.p0 kA, fun H2 t2 s2 h2 => ?_⟩
      · rw [show (((-n).toNat : Nat) : Int) = -n by omega]
      · rw [show (((-n).toNat : Nat) : Int) = -n by omega]
        exact hn.neg
      · refine q _ _ (s1.trans s2) ?_
        unfold zmul
        rw [if_pos h0]
        exact h2
    refine iteN (by simpa using h0) ?_
    obtain ⟨n, rfl⟩ : ∃ m : Nat, n = (m : Int) := ⟨n.toNat, by omega⟩
    have ez : zmul p c A (n : Int) = smul p c A n := by
      unfold zmul
      rw [if_neg h0]
      rfl
    rw [ez] at q
    refine ⟨(by show 0 ≤ sizeLine; decide), fun r nr => ?_⟩
    have s1 := Same.new (H := H) (p := r) (o := .tup []) nr
    have gr : upd H r (.tup []) r = some (.tup []) := upd_same
    generalize upd H r (.tup []) = H1 at s1 gr ⊢
    refine ⟨_, rfl, _, _, rfl, ?_⟩
    first | refine sigN [some (.int (p)), some (.ref ca), some (.int ((n : Int))), some (.ref a), some (.ref r), some (.ref a)] (by rfl) ?_ | refine sig [some (.int (p)), some (.ref ca), some (.int ((n : Int))), some (.ref a), some (.ref r), some (.ref a)] (by rfl) ?_
    refine while_by (fun σ H2 => Same H1 H2 ∧ ∃ (j : Nat) (d f : Addr) (D R : EcZ.Pt), σ = [some (.int p), some (.ref ca), some (.int (j : Int)), some (.ref a), some (.ref f), some (.ref d)] ∧ HT K H2 d D ∧ HT K H2 f R ∧ PtK p c D ∧ PtK p c R ∧ psum p c R (smul p c D j) = smul p c A n)
      (fun σ _ => match σ with | [_, _, some (.int j), _, _, _] => j.toNat | _ => 0) ⟨Same.refl _, n, a, r, A, none, rfl, s1 _ _ ha, gr, kA, trivial, rfl⟩ ?_ ?_
    · rintro σ H2 ⟨s2, j, d, f, D, R, rfl, hd, hf, kD, kR, e⟩
      refine ⟨_, rfl, _, _, rfl, rfl, _, rfl, ?_⟩
      by_cases hj : j = 0
      · subst hj
        refine iteN (by simp) ?_
        refine ⟨_, rfl, q _ f (s1.trans s2) ?_⟩
        rw [← e, show smul p c D 0 = none from rfl, psum_none]
        exact hf
      · refine iteY (by simp; omega) ?_
        have hc2 := Same.tup s2 (Same.tup s1 hc)
        have hsh : (j : Int) / 2 = ((j / 2 : Nat) : Int) := by omega
        refine ⟨fun σ' H3 => Same H2 H3 ∧ ∃ (f' : Addr) (R' : EcZ.Pt), σ' = [some (.int p), some (.ref ca), some (.int (j : Int)), some (.ref a), some (.ref f'), some (.ref d)] ∧ HT K H3 f' R' ∧ PtK p c R' ∧ psum p c R' (smul p c (psum p c D D) (j / 2)) = smul p c A n, ?_, ?_⟩
        · refine ⟨_, rfl, _, _, rfl, rfl, ⟨by decide, by decide⟩, _, _, rfl, rfl, (Or.inr ⟨by decide, by decide⟩), _, rfl, rfl, _, rfl, ?_⟩
          rw [dec_int]
          by_cases hp : j % 2 = 1
          · refine iteY (by simp; omega) ?_
            refine ⟨_, rfl, _, rfl, _, rfl, _, rfl, p, c, ca, f, d, R, D, rfl, ok, hc2, hf, hd, kR, kD, fun H3 t s3 h3 => ?_⟩
            exact ⟨s3, t, _, rfl, h3, ok.sum kR kD, (smul_odd ok kD kR hp).trans e⟩
          · refine iteN (by simp; omega) ?_
            exact ⟨_, rfl, Same.refl _, f, R, rfl, hf, kR, (smul_even ok kD (by omega)).trans e⟩
        · rintro σ' H3 ⟨s3, f', R', rfl, hf3, kR', e3⟩
          have hd3 := s3 _ _ hd
          refine ⟨_, rfl, _, _, rfl, rfl, ⟨by decide, by decide⟩, _, rfl, _, rfl, _, rfl, _, rfl, p, c, ca, d, d, D, D, rfl, ok, Same.tup s3 hc2, hd3, hd3, kD, kD, fun H4 t s4 h4 => ⟨_, _, rfl, ?_⟩⟩
          refine ⟨⟨s2.trans (s3.trans s4), j / 2, t, f', _, R', by rw [← hsh]; rfl, h4, s4 _ _ hf3, ok.sum kD kD, kR', e3⟩, ?_⟩
          show ((j : Int) / 2).toNat < (j : Int).toNat
          omega
    · rintro σ H2 Q1 Q2 i ⟨v, hv, x, y, e1, e2, b, e3, z⟩
      exact ⟨v, hv, x, y, e1, e2, b, e3, i _ _ z⟩
end
end K41
set_option Elab.async false
set_option linter.all false
set_option maxRecDepth 100000
/-! Dicts whose keys are pairs of tuples of ints and texts. -/
namespace DN
open PySem PySem.Spec PyProof.Rows L2 Gd
def n1 : L2.Key → NestedKey
  | .inl i => .num i
  | .inr x => .text x
abbrev K2 := List L2.Key × List L2.Key
def nk (k : K2) : NestedKey := .tup [.tup (k.1.map n1), .tup (k.2.map n1)]
theorem n1_inj {a b : L2.Key} (h : n1 a = n1 b) : a = b := by
  cases a <;> cases b <;> simp only [n1, NestedKey.num.injEq, NestedKey.text.injEq, reduceCtorEq] at h <;> rw [h]
theorem n1s_inj : ∀ {a b : List L2.Key}, a.map n1 = b.map n1 → a = b
  | [], [], _ => rfl
  | [], _ :: _, h => nomatch h
  | _ :: _, [], h => nomatch h
  | x :: a, y :: b, h => by
    rw [List.map_cons, List.map_cons, List.cons.injEq] at h
    rw [n1_inj h.1, n1s_inj h.2]
theorem nk_inj {a b : K2} (h : nk a = nk b) : a = b := by
  unfold nk at h
  simp only [NestedKey.tup.injEq, List.cons.injEq, and_true] at h
  exact Prod.ext (n1s_inj h.1) (n1s_inj h.2)
/-- the key stands at a -/
def KA (H : Hp) (k : K2) (a : Addr) : Prop := ∃ b c, H a = some (.tup [.ref b, .ref c]) ∧ H b = some (.tup (k.1.map kV)) ∧ H c = some (.tup (k.2.map kV))
theorem KA.keep {H H' : Hp} {k : K2} {a : Addr} (h : KA H k a) (s : ∀ b ys, H b = some (.tup ys) → H' b = some (.tup ys)) : KA H' k a := by
  obtain ⟨b, c, h1, h2, h3⟩ := h
  exact ⟨b, c, s _ _ h1, s _ _ h2, s _ _ h3⟩
/-- the dict's object -/
def NKO (P : Program) (w : World) (d : Addr) (xs : List (NestedKey × Addr × Value)) : HO := .ext fun h => xs.length ≤ sizeLine ∧ (d == sysModules) = false ∧ ∃ o es ep, h.get? d = some o ∧ o.ExactDict ∧ o.data = .dict es ep ∧ es.toList = xs.map (entryOfKey (nestedKind P w)) ∧ (xs.map (·.1)).Nodup
abbrev KN (H : Hp) : List (K2 × V) → List (NestedKey × Addr × Value) → Prop := Paired fun p q => q.1 = nk p.1 ∧ KA H p.1 q.2.1 ∧ RelV p.2 q.2.2
/-- at d stands a dict with these entries -/
def ND (P : Program) (w : World) (H : Hp) (d : Addr) (kvs : List (K2 × V)) : Prop := (H d = some (.dT []) ∧ kvs = []) ∨ ∃ xs, H d = some (NKO P w d xs) ∧ KN H kvs xs
theorem KN.keep {H H' : Hp} {kvs : List (K2 × V)} {xs : List (NestedKey × Addr × Value)} (r : KN H kvs xs) (s : ∀ b ys, H b = some (.tup ys) → H' b = some (.tup ys)) : KN H' kvs xs :=
  Paired.mapP r fun _ _ z => ⟨z.1, z.2.1.keep s, z.2.2⟩
theorem KN.val {H : Hp} {kvs : List (K2 × V)} {xs : List (NestedKey × Addr × Value)} (r : KN H kvs xs) (k : K2) : RelO (valV kvs k) ((atKey xs (nk k)).map (·.2)) := by
  induction r with
  | nil => exact True.intro
  | @cons p q ps qs h t ih =>
    by_cases e : p.1 = k
    · have b : atKey (q :: qs) (nk k) = some q.2 := by simp [atKey, List.find?_cons, h.1, e]
      rw [valV_pos e, b]
      exact h.2.2
    · have e' : ¬ q.1 = nk k := fun z => e (nk_inj (h.1.symm.trans z))
      have b : atKey (q :: qs) (nk k) = atKey qs (nk k) := by simp [atKey, List.find?_cons, e']
      rw [valV_neg e, b]
      exact ih
theorem KN.repl {H : Hp} {kvs : List (K2 × V)} {xs : List (NestedKey × Addr × Value)} (r : KN H kvs xs) (k : K2) {y : V} {u : Value} (ry : RelV y u) : KN H (kvs.map fun kv => if kv.1 = k then (kv.1, y) else kv) (xs.map (putAt (nk k) u)) := by
  induction r with
  | nil => exact .nil
  | @cons p q ps qs h t ih =>
    rw [List.map_cons, List.map_cons]
    refine .cons ?_ ih
    unfold putAt
    by_cases e : p.1 = k
    · rw [if_pos e, if_pos (by rw [h.1, e])]
      exact ⟨h.1, h.2.1, ry⟩
    · rw [if_neg e, if_neg (fun z => e (nk_inj (h.1.symm.trans z)))]
      exact h
theorem KN.put {H : Hp} {kvs : List (K2 × V)} {xs : List (NestedKey × Addr × Value)} (r : KN H kvs xs) (k : K2) {b : Addr} {y : V} {u : Value} (hb : KA H k b) (ry : RelV y u) : KN H (putK kvs k y) (storedH xs (nk k) b u) := by
  have e : (kvs.any fun kv => decide (kv.1 = k)) = (atKey xs (nk k)).isSome := by
    rw [valV_any, (r.val k).isSome_eq, Option.isSome_map]
  unfold putK storedH
  rw [e]
  by_cases q : (atKey xs (nk k)).isSome = true
  · rw [if_pos q, if_pos q]
    exact r.repl k ry
  · rw [if_neg q, if_neg q]
    exact Paired.snoc r ⟨rfl, hb, ry⟩
theorem ND.same {P : Program} {w : World} {H H' : Hp} {d : Addr} {kvs : List (K2 × V)} (h : ND P w H d kvs) (s : Same H H') : ND P w H' d kvs := by
  rcases h with ⟨h, e⟩ | ⟨xs, h, r⟩
  · exact .inl ⟨s _ _ h, e⟩
  · exact .inr ⟨xs, s _ _ h, r.keep fun b ys z => s _ _ z⟩
section
variable {P : Program} {w : World} {H : Hp} {h : Heap} {d a : Addr}
theorem vals_nested : ∀ {ks : List L2.Key} {us : List Value}, Vals (ks.map kV) us → NestedAll h (ks.map n1) us
  | [], _, r => by cases r; exact .nil
  | k :: ks, _, r => by
    cases r with
    | cons r t =>
      refine .cons ?_ (vals_nested t)
      cases k with
      | inl i =>
        obtain ⟨t, rfl⟩ := (show ∃ t, _ = Value.int i t from r)
        exact .int i t
      | inr x =>
        obtain ⟨t, rfl⟩ := (show ∃ t, _ = Value.str x t from r)
        exact .text x t
theorem tup_nested {ks : List L2.Key} (ok : HOk P w H h) (e : H a = some (.tup (ks.map kV))) : NestedIs h (.tup (ks.map n1)) (.ref a) := by
  obtain ⟨_, its, r, o, h1, h2, n, h3⟩ := (show ObjOk P w H h a (.tup (ks.map kV)) from ok a _ e)
  exact .tup h1 h2 h3 (by simpa using vals_nested r)
theorem n1_depth : ∀ ks : List L2.Key, NestedKey.depthAll (ks.map n1) ≤ 0
  | [] => by simp [NestedKey.depthAll]
  | k :: ks => by
    have := n1_depth ks
    rw [List.map_cons, NestedKey.depthAll]
    cases k <;> (simp only [n1, NestedKey.depth]; omega)
theorem nk_depth (k : K2) : (nk k).depth ≤ 8 := by
  have h1 := n1_depth k.1
  have h2 := n1_depth k.2
  unfold nk
  simp only [NestedKey.depth, NestedKey.depthAll]
  omega
theorem ka_of {k : K2} (ok : HOk P w H h) (e : KA H k a) : (nestedKind P w).is h (nk k) a := by
  obtain ⟨b, c, h1, h2, h3⟩ := e
  obtain ⟨_, its, r, o, z1, z2, n, z3⟩ := (show ObjOk P w H h a (.tup [.ref b, .ref c]) from ok a _ h1)
  refine ⟨.tup z1 z2 z3 ?_, nk_depth k⟩
  cases r with
  | cons r1 t1 =>
    cases t1 with
    | cons r2 t2 =>
      cases t2
      cases r1
      cases r2
      exact .cons (tup_nested ok h2) (.cons (tup_nested ok h3) .nil)
theorem kn_is {kvs : List (K2 × V)} {xs : List (NestedKey × Addr × Value)} (ok : HOk P w H h) (r : KN H kvs xs) : ∀ x ∈ xs, (nestedKind P w).is h x.1 x.2.1 := by
  induction r with
  | nil => intro x hx; exact nomatch hx
  | @cons p q ps qs hq t ih =>
    intro x hx
    rcases List.mem_cons.mp hx with e | hx
    · subst e
      rw [hq.1]
      exact ka_of ok hq.2.1
    · exact ih x hx
theorem nd_of {kvs : List (K2 × V)} (ok : HOk P w H h) (e : ND P w H d kvs) : kvs.length ≤ sizeLine ∧ (d == sysModules) = false ∧ ∃ xs, KN H kvs xs ∧ h.DictOfH (nestedKind P w) d xs := by
  rcases e with ⟨e, rfl⟩ | ⟨xs, e, r⟩
  · obtain ⟨z, hd, xs, r, o, es, ep, h1, h2, h3, h4, h5⟩ := (show ObjOk P w H h d (.dT []) from ok d _ e)
    cases r
    exact ⟨Nat.zero_le _, hd, [], .nil, o, es, ep, h1, h2, h3, h4, (fun x hx => nomatch hx), List.nodup_nil⟩
  · obtain ⟨⟨z, hd, o, es, ep, h1, h2, h3, h4, h5⟩, _⟩ := (show ObjOk P w H h d (NKO P w d xs) from ok d _ e)
    exact ⟨by rw [Paired.length r]; exact z, hd, xs, r, o, es, ep, h1, h2, h3, h4, kn_is ok r, h5⟩
end
section
variable {X : Cx} {pins : List (Addr × Obj)} {σ : L2.St} {H : Hp} {s : Shared} {a b : Addr} {kvs : List (K2 × V)} {k : K2} {v : V} {r : Value} {A : Around} {E : Value → Shared → Prop}
theorem d_getItemN {Q : Value → Shared → Prop} (hu : A.units + 20 < cLine) (I : Inv X pins σ H s) (e : ND X.prog X.w H a kvs) (eb : KA H k b) (l : valV kvs k = some v) (h : ∀ w' s', Inv X pins σ H s' → RelV v w' → Q w' s') : wpAny (model X.prog X.w) A (getItem (.ref a) (.ref b)) Q E s := by
  obtain ⟨z, hd, xs, rel, dd⟩ := nd_of I.hok e
  obtain ⟨w', hw, rw'⟩ := RelO.some_of (v := v) (o := (atKey xs (nk k)).map (·.2)) (by rw [← l]; exact rel.val k)
  obtain ⟨p, hp, hp2⟩ := Option.map_eq_some_iff.mp hw
  refine wpAny_getItem_heap (knd := nestedKind X.prog X.w) (show A.units + 1 + 8 < cLine by omega) (ka_of I.hok eb) dd hp ?_
  rw [hp2]
  exact h w' _ (I.tok _) rw'
theorem d_setItemN {Q : Unit → Shared → Prop} (hu : A.units + 20 < cLine) (I : Inv X pins σ H s) (e : ND X.prog X.w H a kvs) (eb : KA H k b) (l : kvs.length < sizeLine) (rv : RelV v r)
    (h : ∀ o s', ND X.prog X.w (upd H a o) a (putK kvs k v) → Inv X pins σ (upd H a o) s' → Q () s') : wpAny (model X.prog X.w) A (setItem (.ref a) (.ref b) r) Q E s := by
  obtain ⟨z, hd, xs, rel, dd⟩ := nd_of I.hok e
  have hz : xs.length ≤ sizeLine := by rw [← Paired.length rel]; exact z
  have nt : ∀ c ys, H c = some (.tup ys) → upd H a (NKO X.prog X.w a (storedH xs (nk k) b r)) c = some (.tup ys) := fun c ys ec => by
    have : c ≠ a := by
      rcases e with ⟨e, _⟩ | ⟨xs', e, _⟩
      · exact ne_of ec e (fun z => nomatch z)
      · exact ne_of ec e (fun z => nomatch z)
    rw [upd_ne this]
    exact ec
  have rel' := rel.put k eb rv
  refine wpAny_setItem_heap (knd := nestedKind X.prog X.w) (hsz := hz) (show A.units + 1 + 8 < cLine by omega) (ka_of I.hok eb) dd fun h' dd' hs => h (NKO X.prog X.w a (storedH xs (nk k) b r)) _ (.inr ⟨_, upd_same, rel'.keep nt⟩) ?_
  obtain ⟨q, es, ep, hq, h2, h3, h4, _, h5⟩ := dd'
  refine d_write I (by rcases e with ⟨e, _⟩ | ⟨xs', e, _⟩ <;> (rw [e]; exact True.intro)) hs ⟨q, hq⟩ ⟨⟨?_, hd, q, es, ep, hq, h2, h3, h4, h5⟩, ⟨q, hq⟩, ?_⟩
  · rw [← Paired.length rel']
    have := length_putK kvs k v
    omega
  · rintro g1 g2 ⟨w1, w2, o, es, ep, w3, w4⟩ kk
    exact ⟨w1, w2, o, es, ep, kk o w3, w4⟩
theorem nd_typeIs (I : Inv X pins σ H s) (e : ND X.prog X.w H a kvs) : s.TypeIs (.ref a) "dict" := by
  obtain ⟨_, _, xs, _, dd⟩ := nd_of I.hok e
  exact dd.typeIs
end
/-- d[x, y] -/
def tNGet (P : Program) (w : World) (td ty : TE) : TE := fun σ H Q => td σ H fun x H1 => ty σ H1 fun y H2 => ∃ a b kvs k v, x = .ref a ∧ y = .ref b ∧ ND P w H2 a kvs ∧ KA H2 k b ∧ valV kvs k = some v ∧ Q v H2
/-- d[x, y] = v -/
def sNPut (P : Program) (w : World) (td ty tv : TE) : TS := fun D σ H => tv σ H fun v H1 => td σ H1 fun x H2 => ty σ H2 fun y H3 => ∃ a b kvs k, x = .ref a ∧ y = .ref b ∧ ND P w H3 a kvs ∧ KA H3 k b ∧ kvs.length < sizeLine ∧ ∀ o, ND P w (upd H3 a o) a (putK kvs k v) → D.nx σ (upd H3 a o)
section
variable {X : Cx} {o i e value : Expr} {pos pos' tpos : Pos} {td ty tv : TE}
theorem pe_nget (hu : X.A.units + 20 < cLine) (ho : PE X o td) (hi : PE X i ty) (hs : NoSl i) : PE X (.Subscript o i pos) (tNGet X.prog X.w td ty) := by
  refine ⟨fun pins s σ H Q I h => ?_⟩
  refine subD_of PySem.F.slot_dict_getitem.lookup hs (thn (ho.run pins s σ H _ I h) fun u s1 ⟨x, H1, I1, rx, q1⟩ => thn (hi.run pins s1 σ H1 _ I1 q1) fun iv s2 ⟨y, H2, I2, ry, a, b, kvs, k, v, ex, ey, g, gk, gv, q2⟩ => ?_)
  subst ex
  subst ey
  obtain rfl : u = Value.ref a := rx
  obtain rfl : iv = Value.ref b := ry
  exact ⟨nd_typeIs I2 g, d_getItemN hu I2 g gk gv fun w' s3 I3 rw' => ⟨v, H2, I3, rw', q2⟩⟩
theorem ps_nput (hu : X.A.units + 20 < cLine) (ho : PE X o td) (hi : PE X i ty) (hv : PE X value tv) (hs : swapsWith value (some (.Subscript o i pos')) pos.line X.env = pure false) : PS X (.Assign [.Subscript o i pos'] value pos) (sNPut X.prog X.w td ty tv) := by
  refine ⟨fun pins s σ H D I h => ?_⟩
  refine wpAny_Assign_Subscript (thn (hv.run pins s σ H _ I h) fun r s1 ⟨v, H1, I1, rv, q1⟩ => thn (ho.run pins s1 σ H1 _ I1 q1) fun u s2 ⟨x, H2, I2, rx, q2⟩ => thn (hi.run pins s2 σ H2 _ I2 q2) fun iv s3 ⟨y, H3, I3, ry, a, b, kvs, k, ex, ey, g, gk, hl, q3⟩ => ?_) hs
  subst ex
  subst ey
  obtain rfl : u = Value.ref a := rx
  obtain rfl : iv = Value.ref b := ry
  exact d_setItemN hu I3 g gk hl rv fun o s4 gn I4 => ⟨σ, _, I4, q3 o gn⟩
end
theorem valV_put {κ : Type} [DecidableEq κ] {kvs : List (κ × V)} {k j : κ} {v : V} : valV (putK kvs k v) j = if j = k then some v else valV kvs j := by
  unfold putK
  split
  · rename_i h
    induction kvs with
    | nil => cases h
    | cons p r ih =>
      rw [List.map_cons]
      by_cases e : p.1 = k
      · rw [if_pos e]
        by_cases g : j = k
        · rw [if_pos g, valV_pos (by show p.1 = j; rw [e, g])]
        · rw [if_neg g, valV_neg (by show ¬ p.1 = j; rw [e]; exact fun z => g z.symm), valV_neg (by rw [e]; exact fun z => g z.symm)]
          by_cases h2 : (r.any fun kv => decide (kv.1 = k)) = true
          · rw [ih h2, if_neg g]
          · have : r.map (fun kv => if kv.1 = k then (kv.1, v) else kv) = r := by
              refine (List.map_congr_left fun x hx => ?_).trans (List.map_id' r)
              rw [if_neg fun z => h2 (List.any_eq_true.mpr ⟨x, hx, decide_eq_true z⟩)]
            rw [this]
      · rw [if_neg e]
        have h2 : (r.any fun kv => decide (kv.1 = k)) = true := by
          rw [List.any_cons, decide_eq_false e, Bool.false_or] at h
          exact h
        by_cases g : p.1 = j
        · rw [valV_pos g, valV_pos g, if_neg (by rw [← g]; exact e)]
        · rw [valV_neg g, valV_neg g]
          exact ih h2
  · rename_i h
    induction kvs with
    | nil =>
      by_cases g : j = k
      · rw [if_pos g, List.nil_append, valV_pos g.symm]
      · rw [if_neg g, List.nil_append, valV_neg fun z => g z.symm]
    | cons p r ih =>
      rw [List.any_cons, Bool.or_eq_true, not_or] at h
      have e : ¬ p.1 = k := fun z => h.1 (decide_eq_true z)
      by_cases g : p.1 = j
      · rw [List.cons_append, valV_pos g, valV_pos g, if_neg (by rw [← g]; exact e)]
      · rw [List.cons_append, valV_neg g, valV_neg g]
        exact ih h.2
end DN
set_option Elab.async false
set_option linter.all false
set_option maxRecDepth 100000
set_option maxHeartbeats 4000000
namespace K41
open PySem PySem.Spec PyProof.Rows L2 Gd QM K45M EcZ DN
def pk : EcZ.Pt → List L2.Key
  | none => []
  | some (x, y) => [.inl x, .inl y]
theorem pk_map (A : EcZ.Pt) : (pk A).map kV = pL A := by
  match A with
  | none => rfl
  | some (x, y) => rfl
theorem pk_inj {A D : EcZ.Pt} (h : pk A = pk D) : A = D := by
  match A, D, h with
  | none, none, _ => rfl
  | none, some (_, _), h => exact nomatch h
  | some (_, _), none, h => exact nomatch h
  | some (x, y), some (z, w), h =>
    unfold pk at h
    simp only [List.cons.injEq, Sum.inl.injEq, and_true] at h
    rw [h.1, h.2]
theorem hu20 {A : Around} {k : Nat} (hr : Room k A) : A.units + 20 < cLine := Nat.lt_of_le_of_lt (Nat.add_le_add_left (by decide : 20 ≤ 64) _) hr.units
section
variable {P : Program} {w : World} {K : PySem.W.Frag} {H H' : Hp} {p : Int} {c : C5} {d a b u m cl : Addr} {A B : EcZ.Pt} {kvs : List (K2 × V)}
theorem ka_mk (hu : H u = some (.tup [.ref a, .ref b])) (ha : HT K H a A) (hb : HT K H b B) : KA H (pk A, pk B) u := ⟨a, b, hu, by rw [pk_map]; exact ha, by rw [pk_map]; exact hb⟩
theorem nd_ne {xs : List V} (h : ND P w H d kvs) (g : H u = some (.tup xs)) : u ≠ d := by
  rcases h with ⟨h, _⟩ | ⟨xs, h, _⟩
  · exact ne_of g h (fun z => nomatch z)
  · exact ne_of g h (fun z => nomatch z)
theorem nd_but {n : Nat} (h : ND P w H d kvs) (b : But m H H') (hM : MAt H m cl n) : ND P w H' d kvs := by
  obtain ⟨kk, hm⟩ := hM.some
  rcases h with ⟨h, e⟩ | ⟨xs, h, r⟩
  · refine .inl ⟨b d _ h (fun e2 => ?_), e⟩
    subst e2
    rw [hm] at h
    have := Option.some.inj h
    cases this
  · exact .inr ⟨xs, b d _ h (ne_of h hm (fun z => nomatch z)), r.keep fun c ys z => b.tup hM z⟩
/-- the table of sums, as far as S -/
def TabS (P : Program) (w : World) (K : PySem.W.Frag) (H : Hp) (d : Addr) (p : Int) (c : C5) (S : EcZ.Pt → EcZ.Pt → Prop) (n : Nat) : Prop := ∃ kvs, ND P w H d kvs ∧ kvs.length ≤ n ∧ ∀ A B, S A B → ∃ t, valV kvs (pk A, pk B) = some (.ref t) ∧ HT K H t (psum p c A B)
theorem TabS.same {S : EcZ.Pt → EcZ.Pt → Prop} {n : Nat} (h : TabS P w K H d p c S n) (s : Same H H') : TabS P w K H' d p c S n := by
  obtain ⟨kvs, h1, h2, h3⟩ := h
  refine ⟨kvs, h1.same s, h2, fun A B z => ?_⟩
  obtain ⟨t, e, g⟩ := h3 A B z
  exact ⟨t, e, s _ _ g⟩
theorem TabS.but {S : EcZ.Pt → EcZ.Pt → Prop} {n k : Nat} (h : TabS P w K H d p c S n) (b : But m H H') (hM : MAt H m cl k) : TabS P w K H' d p c S n := by
  obtain ⟨kvs, h1, h2, h3⟩ := h
  refine ⟨kvs, nd_but h1 b hM, h2, fun A B z => ?_⟩
  obtain ⟨t, e, g⟩ := h3 A B z
  exact ⟨t, e, b.tup hM g⟩
theorem TabS.mono {S S' : EcZ.Pt → EcZ.Pt → Prop} {n n' : Nat} (h : TabS P w K H d p c S n) (hs : ∀ A B, S' A B → S A B) (hn : n ≤ n') : TabS P w K H d p c S' n' := by
  obtain ⟨kvs, h1, h2, h3⟩ := h
  exact ⟨kvs, h1, Nat.le_trans h2 hn, fun A B z => h3 A B (hs A B z)⟩
theorem mat_but {n : Nat} (h : MAt H m cl n) (b : But d H H') (h1 : m ≠ d) (h2 : cl ≠ d) : MAt H' m cl n := by
  obtain ⟨L, s, cs, j, g1, g2, g3, g4⟩ := h
  exact ⟨L, s, cs, j, b _ _ g1 h1, g2, b _ _ g3 h2, g4⟩
theorem PA.at : ∀ {bs : List Addr} {As : List EcZ.Pt} {i : Nat} {b : Addr}, PA K H bs As → bs[i]? = some b → ∃ A, As[i]? = some A ∧ HT K H b A
  | _, _, 0, b, .cons h t, e => by
    obtain rfl := Option.some.inj e
    exact ⟨_, rfl, h⟩
  | _, _, i + 1, b, .cons h t, e => PA.at (i := i) t e
theorem mem_take_succ {As : List EcZ.Pt} {i : Nat} {A X : EcZ.Pt} (h : As[i]? = some A) : X ∈ As.take (i + 1) ↔ X ∈ As.take i ∨ X = A := by
  rw [List.take_add_one, h, List.mem_append]
  show X ∈ As.take i ∨ X ∈ [A] ↔ _
  rw [List.mem_singleton]
theorem valV_put2 {k j : K2} {v : V} : valV (putK kvs k v) j = if j = k then some v else valV kvs j := DN.valV_put
end
section
variable {P : Program} {w : World} {K : PySem.W.Frag} {mg : Str → Option Value} {base : Heap}
def sp_law_brackets_right (K : PySem.W.Frag) : Sp := fun vs H Q _ => ∃ (m cl : Addr) (p : Int) (c : C5) (ca lp : Addr) (bs : List Addr) (N : Nat), vs = [.ref m, .int p, .ref ca, .ref lp] ∧ Okc p c ∧ SqT K H ca (cL c) ∧ N ≤ 900000 ∧ MAt H m cl N ∧ H lp = some (.lst (bs.map V.ref)) ∧ PA K H bs (allP p c) ∧ bs.length ≤ 1000 ∧ ∀ H', But m H H' → Q (.bl true) H'
abbrev s__law_brackets_right : Stmt := topS 21
theorem sc__law_brackets_right : FnScope ["m", "p", "five", "points", "table", "one", "two", "some", "k", "three"] ["m", "p", "five", "points"] (defScope s__law_brackets_right) := ⟨rfl, rfl, rfl, by decide +kernel, rfl, by decide +kernel, by decide +kernel⟩
theorem k_law_brackets_right (T : Tx K mg) (D : Df K mg "_law_brackets_right" s__law_brackets_right ["m", "p", "five", "points"]) (c_added_over : Kl P w K mg base 2 "added_over" (sp_added_over K)) (c_law_of : Kl P w K mg base 2 "_law_of" (sp_law_of K)) : Kl P w K mg base 3 "_law_brackets_right" (sp_law_brackets_right K) := by
  have nd := sc__law_brackets_right.nd
  refine Kl.by_body D sc__law_brackets_right (fun vs H Q E h => ?_) (fun f cdv A outer s H vs Q E hr h => ?_)
  · obtain ⟨_, _, _, _, _, _, _, _, rfl, _⟩ := h
    rfl
  · obtain ⟨m, cl, p, c, ca, lp, bs, N, rfl, ok, hc, hN, hM, hlp, hP, hl, q⟩ := h
    have hu8 := hu20 hr
    have hu1 := hu_of hr
    refine ⟨_, (pss_cons (ps_set (i := 4) nd rfl (by first | exact Or.inl rfl | exact Or.inr rfl) pe_dnewT)
      (pss_cons (ps_for PassesOwn.never rfl (pi_list (pv 3)) (pg_name (i := 5) nd rfl (by first | exact Or.inl rfl | exact Or.inr rfl)) (pss_one (ps_for PassesOwn.never rfl (pi_list (pv 3)) (pg_name (i := 6) nd rfl (by first | exact Or.inl rfl | exact Or.inr rfl)) (pss_one (DN.ps_nput hu8 (pv 4) (pe_tup (pa_cons (pv 5) (pa_cons (pv 6) pa_nil))) (pe_k c_added_over  hr (by decide) (by rfl) (pa_cons (pv 1) (pa_cons (pv 2) (pa_cons (pv 5) (pa_cons (pv 6) pa_nil))))) rfl)))))
      (C8.pss_cut (ps_set (i := 7) nd rfl (by first | exact Or.inl rfl | exact Or.inr rfl) (pe_ifExp (pt_cmpR op_lt (pe_callB call_len_seq (by rfl) T.len (by decide +kernel) (pa_cons (pv 3) pa_nil)) pe_int (nomark _)) (pv 3) (pe_lc (own := [("k", 8)]) (g := gName 8) rfl nd (pi_range1 (by rfl) T.range (pa_cons pe_int pa_nil)) (blkOk_by (N := ["m", "p", "five", "points", "table", "one", "two", "some", "k", "three"]) (sc := defScope s__law_brackets_right) (by decide +kernel)) (fun _ _ _ _ _ => (pg_name (i := 8) nd rfl (by first | exact Or.inl rfl | exact Or.inr rfl))) (fun _ _ _ _ _ => pts_nil) (fun _ _ _ _ _ => (pe_k c_law_of  hr (by decide) (by rfl) (pa_cons (pv 0) (pa_cons (pv 3) pa_nil)))))))
      (pss_cons (ps_for PassesOwn.never rfl (pi_list (pv 7)) (pg_name (i := 5) nd rfl (by first | exact Or.inl rfl | exact Or.inr rfl)) (pss_one (ps_for PassesOwn.never rfl (pi_list (pv 7)) (pg_name (i := 6) nd rfl (by first | exact Or.inl rfl | exact Or.inr rfl)) (pss_one (ps_for PassesOwn.never rfl (pi_list (pv 7)) (pg_name (i := 9) nd rfl (by first | exact Or.inl rfl | exact Or.inr rfl)) (pss_one (ps_if (pt_cmpR (op_neD hr.units) (DN.pe_nget hu8 (pv 4) (pe_tup (pa_cons (DN.pe_nget hu8 (pv 4) (pe_tup (pa_cons (pv 5) (pa_cons (pv 6) pa_nil))) (fun _ _ => rfl)) (pa_cons (pv 9) pa_nil))) (fun _ _ => rfl)) (DN.pe_nget hu8 (pv 4) (pe_tup (pa_cons (pv 5) (pa_cons (DN.pe_nget hu8 (pv 4) (pe_tup (pa_cons (pv 6) (pa_cons (pv 9) pa_nil))) (fun _ _ => rfl)) pa_nil))) (fun _ _ => rfl)) (nomark _)) (pss_one (ps_ret pe_bl)) pss_nil)))))))
      (pss_one (ps_ret pe_bl)))))), ?_⟩
    intro d nd
    have hmd := hM.ne nd
    have s1 := Same.new (H := H) (p := d) (o := .dT []) nd
    have gd : upd H d (.dT []) d = some (.dT []) := upd_same
    generalize upd H d (.dT []) = H1 at s1 gd ⊢
    have hc1 := Same.tup s1 hc
    have hlp1 := s1 _ _ hlp
    have hP1 := hP.same s1
    have lpd : lp ≠ d := ne_of hlp1 gd (by intro z; cases z)
    have bsn := Paired.length hP
    have m1 := hM.same s1
    first | refine sigN [some (.ref m), some (.int (p)), some (.ref ca), some (.ref lp), some (.ref d), none, none, none, none, none] (by rfl) ?_ | refine sig [some (.ref m), some (.int (p)), some (.ref ca), some (.ref lp), some (.ref d), none, none, none, none, none] (by rfl) ?_
    refine ⟨_, rfl, lp, rfl, ⟨_, lst_of hlp1⟩, for_list (K := K) (a := lp) (xs := bs.map V.ref) (fun i σ H2 => But d H1 H2 ∧ ∃ v5 v6 : Option V, σ = [some (.ref m), some (.int p), some (.ref ca), some (.ref lp), some (.ref d), v5, v6, none, none, none] ∧ TabS P w K H2 d p c (fun A B => A ∈ (allP p c).take i ∧ PtK p c B) (i * 1000)) ⟨But.refl d _, none, none, rfl, [], .inl ⟨gd, rfl⟩, Nat.zero_le _, fun A B z => by rw [List.take_zero] at z; exact nomatch z.1⟩ (fun i σ H2 _ z => lst_of (z.1 _ _ hlp1 lpd)) ?_ ?_⟩
    · rintro i v σ H2 hi ⟨b2, v5, v6, rfl, T2⟩
      rw [List.getElem?_map] at hi
      obtain ⟨b, hb, rfl⟩ := Option.map_eq_some_iff.mp hi
      obtain ⟨A, hA, gA⟩ := hP1.at hb
      have kA : PtK p c A := (mem_all ok).mp (List.mem_of_getElem? hA)
      have i9 : i < bs.length := (List.getElem?_eq_some_iff.mp hb).1
      have tD : ∀ {G : Hp}, But d H1 G → ∀ {t : Addr} {X : EcZ.Pt}, HT K H1 t X → HT K G t X := fun bb _ _ h => bb _ _ h (ne_of h gd (by intro z; cases z))
      have hcD : ∀ {G : Hp}, But d H1 G → SqT K G ca (cL c) := fun bb => by
        rcases hc1 with (e | ⟨z, e⟩) | e
        · exact Or.inl (Or.inl (bb _ _ e (ne_of e gd (by intro z; cases z))))
        · exact Or.inl (Or.inr ⟨z, bb _ _ e (ne_of e gd (by intro z; cases z))⟩)
        · exact Or.inr e
      first | refine sigN [some (.ref m), some (.int (p)), some (.ref ca), some (.ref lp), some (.ref d), some (.ref b), v6, none, none, none] (by rfl) ?_ | refine sig [some (.ref m), some (.int (p)), some (.ref ca), some (.ref lp), some (.ref d), some (.ref b), v6, none, none, none] (by rfl) ?_
      have hlp2 := b2 _ _ hlp1 lpd
      refine ⟨_, rfl, lp, rfl, ⟨_, lst_of hlp2⟩, for_list (K := K) (a := lp) (xs := bs.map V.ref) (fun j σ H3 => But d H1 H3 ∧ ∃ v6 : Option V, σ = [some (.ref m), some (.int p), some (.ref ca), some (.ref lp), some (.ref d), some (.ref b), v6, none, none, none] ∧ TabS P w K H3 d p c (fun A' B => (A' ∈ (allP p c).take i ∧ PtK p c B) ∨ (A' = A ∧ B ∈ (allP p c).take j)) (i * 1000 + j)) ⟨b2, v6, rfl, T2.mono (fun A' B z => by
          rcases z with z | z
          · exact z
          · rw [List.take_zero] at z
            exact nomatch z.2) (Nat.le_refl _)⟩ (fun j σ H3 _ z => lst_of (z.1 _ _ hlp1 lpd)) ?_ ?_⟩
      · rintro j v σ H3 hj ⟨b3, v6, rfl, T3⟩
        rw [List.getElem?_map] at hj
        obtain ⟨b', hb', rfl⟩ := Option.map_eq_some_iff.mp hj
        obtain ⟨A2, hA2, gA2⟩ := hP1.at hb'
        have kB : PtK p c A2 := (mem_all ok).mp (List.mem_of_getElem? hA2)
        have j9 : j < bs.length := (List.getElem?_eq_some_iff.mp hb').1
        first | refine sigN [some (.ref m), some (.int (p)), some (.ref ca), some (.ref lp), some (.ref d), some (.ref b), some (.ref b'), none, none, none] (by rfl) ?_ | refine sig [some (.ref m), some (.int (p)), some (.ref ca), some (.ref lp), some (.ref d), some (.ref b), some (.ref b'), none, none, none] (by rfl) ?_
        refine ⟨_, rfl, _, rfl, _, rfl, _, rfl, p, c, ca, b, b', A, A2, rfl, ok, hcD b3, tD b3 gA, tD b3 gA2, kA, kB, fun H4 t s4 h4 => ?_⟩
        refine ⟨_, rfl, _, rfl, _, rfl, (by show 2 ≤ sizeLine; decide), fun u nu => ?_⟩
        have s5 := Same.new (H := H4) (p := u) (o := .tup [.ref b, .ref b']) nu
        have gu : upd H4 u (.tup [.ref b, .ref b']) u = some (.tup [.ref b, .ref b']) := upd_same
        generalize upd H4 u (.tup [.ref b, .ref b']) = H5 at s5 gu ⊢
        have b5 : But d H1 H5 := b3.trans (But.of (s4.trans s5))
        obtain ⟨kvs, nk, lk, sk⟩ := T3.same (s4.trans s5)
        have gt5 := s5 _ _ h4
        refine ⟨d, u, kvs, (pk A, pk A2), rfl, rfl, nk, ka_mk (K := K) gu (tD b5 gA) (tD b5 gA2), by rw [sizeLine_eq]; omega, fun o no => ?_⟩
        refine ⟨b5.trans But.upd, _, rfl, _, no, ?_, fun A' B' z => ?_⟩
        · have := length_putK kvs (pk A, pk A2) (.ref t)
          omega
        · have hput : ∀ {x : Addr} {X : EcZ.Pt}, HT K H5 x X → HT K (upd H5 d o) x X := fun h => by
            show upd H5 d o _ = _
            rw [upd_ne (nd_ne nk h)]
            exact h
          by_cases hk : ((pk A', pk B') : K2) = (pk A, pk A2)
          · have h1 := pk_inj (congrArg Prod.fst hk)
            have h2 := pk_inj (congrArg Prod.snd hk)
            refine ⟨t, ?_, ?_⟩
            · rw [valV_put2, if_pos hk]
            · rw [h1, h2]
              exact hput gt5
          · have hs : (A' ∈ (allP p c).take i ∧ PtK p c B') ∨ (A' = A ∧ B' ∈ (allP p c).take j) := by
              rcases z with z | ⟨z1, z2⟩
              · exact .inl z
              · rcases (mem_take_succ hA2).mp z2 with z2 | z2
                · exact .inr ⟨z1, z2⟩
                · exact absurd (by rw [z1, z2]) hk
            obtain ⟨t0, e0, g0⟩ := sk A' B' hs
            exact ⟨t0, by rw [valV_put2, if_neg hk]; exact e0, hput g0⟩
      · rintro σ H3 ⟨b3, v6, rfl, T3⟩
        refine ⟨b3, _, _, rfl, T3.mono (fun A' B z => ?_) ?_⟩
        · rcases (mem_take_succ hA).mp z.1 with z1 | z1
          · exact .inl ⟨z1, z.2⟩
          · refine .inr ⟨z1, ?_⟩
            rw [List.length_map, bsn, List.take_length]
            exact (mem_all ok).mpr z.2
        · rw [List.length_map]
          omega
    · rintro σ H2 ⟨b2, v5, v6, rfl, T2⟩
      rw [List.length_map, bsn, List.take_length] at T2
      have T2 : TabS P w K H2 d p c (fun A B => PtK p c A ∧ PtK p c B) ((allP p c).length * 1000) := T2.mono (fun A B z => ⟨(mem_all ok).mpr z.1, z.2⟩) (Nat.le_refl _)
      have m2 := mat_but m1 b2 hmd.1 hmd.2
      have hlp2 := b2 _ _ hlp1 lpd
      have tD : ∀ {t : Addr} {X : EcZ.Pt}, HT K H1 t X → HT K H2 t X := fun h => b2 _ _ h (ne_of h gd (by intro z; cases z))
      have P2 : PsAt K H2 p c bs := fun x hx => by
        obtain ⟨A, hA, g⟩ := hP1.get hx
        exact ⟨A, tD g, (mem_all ok).mp hA⟩
      have b02 : But m H H2 := fun x o hx hn => b2 _ _ (s1 _ _ hx) (ne_of_none hx nd)
      refine ⟨fun σ' H3 => ∃ (sp : Addr) (cs : List Addr) (v5 v6 : Option V), σ' = [some (.ref m), some (.int p), some (.ref ca), some (.ref lp), some (.ref d), v5, v6, some (.ref sp), none, none] ∧ But m H2 H3 ∧ H3 sp = some (.lst (cs.map V.ref)) ∧ PsAt K H3 p c cs ∧ TabS P w K H3 d p c (fun A B => PtK p c A ∧ PtK p c B) ((allP p c).length * 1000), ?_, ?_⟩
      · refine ⟨_, rfl, lp, _, rfl, .inl (lst_of hlp2), _, _, rfl, rfl, _, rfl, ite2 (fun _ => ?_) (fun _ => ?_)⟩
        · exact ⟨_, rfl, lp, bs, _, _, rfl, But.refl m _, hlp2, P2, T2⟩
        · refine ⟨14, rfl, by decide, by decide, fun D hD => ?_⟩
          have hmD := m2.ne hD
          refine lc_range (lo := 0) (n := 14) (fun j H4 => ∃ cs : List Addr, H4 D = some (.lst (cs.map V.ref)) ∧ cs.length = j ∧ (∀ b ∈ cs, b ∈ bs) ∧ But m H2 H4 ∧ MAt H4 m cl (N + j)) ⟨[], upd_same, rfl, (by simp), But.of (Same.new hD), m2.same (Same.new hD)⟩ (fun j H4 hj z => ?_) (fun H4 z => ?_)
          · obtain ⟨cs, hcs, el, hsub, b4, m4⟩ := z
            have hlp4 := b4.lst m2 hlp2
            have lb : 0 < bs.length := by
              rw [bsn]
              exact Nat.succ_pos _
            refine ⟨rfl, _, rfl, _, rfl, m, cl, lp, _, N + j, rfl, lst_of hlp4, by rw [List.length_map]; exact lb, by rw [List.length_map]; exact hl, by omega, m4, fun H5 y b5 m5 hy => ?_⟩
            obtain ⟨b, hb, rfl⟩ := List.mem_map.mp hy
            refine ⟨_, b5.lst m4 hcs, by rw [List.length_map]; exact small1000 (by omega), cs ++ [b], ?_, by rw [List.length_append, el]; rfl, ?_, fun c o e nc => ?_, ?_⟩
            · rw [upd_same, List.map_append]
              rfl
            · intro x hx
              rcases List.mem_append.mp hx with hx | hx
              · exact hsub x hx
              · rw [List.mem_singleton.mp hx]
                exact hb
            · rw [upd_ne (ne_of_none e hD)]
              exact (b4.trans b5) c o e nc
            · exact m5.put hmD
          obtain ⟨cs, hcs, el, hsub, b4, m4⟩ := z
          refine ⟨D, cs, _, _, rfl, b4, hcs, fun x hx => ?_, T2.but b4 m2⟩
          obtain ⟨A, g, k⟩ := P2 x (hsub x hx)
          exact ⟨A, b4.tup m2 g, k⟩
      · rintro σ' H3 ⟨sp, cs, v5, v6, rfl, b3, hsp, Pc, T3⟩
        have bE := b02.trans b3
        refine ⟨_, rfl, sp, rfl, ⟨_, lst_of hsp⟩, for_list (K := K) (a := sp) (xs := cs.map V.ref) (fun i σ H4 => Same H3 H4 ∧ ∃ v5 v6 v9 : Option V, σ = [some (.ref m), some (.int p), some (.ref ca), some (.ref lp), some (.ref d), v5, v6, some (.ref sp), none, v9]) ⟨Same.refl _, v5, v6, none, rfl⟩ (fun i σ H4 _ z => lst_of (z.1 _ _ hsp)) ?_ ?_⟩
        · rintro i v σ H4 hi ⟨s4, v5, v6, v9, rfl⟩
          rw [List.getElem?_map] at hi
          obtain ⟨a1, ha1, rfl⟩ := Option.map_eq_some_iff.mp hi
          obtain ⟨A, gA, kA⟩ := Pc a1 (List.mem_of_getElem? ha1)
          first | refine sigN [some (.ref m), some (.int (p)), some (.ref ca), some (.ref lp), some (.ref d), some (.ref a1), v6, some (.ref sp), none, v9] (by rfl) ?_ | refine sig [some (.ref m), some (.int (p)), some (.ref ca), some (.ref lp), some (.ref d), some (.ref a1), v6, some (.ref sp), none, v9] (by rfl) ?_
          refine ⟨_, rfl, sp, rfl, ⟨_, lst_of (s4 _ _ hsp)⟩, for_list (K := K) (a := sp) (xs := cs.map V.ref) (fun i σ H5 => Same H3 H5 ∧ ∃ v6 v9 : Option V, σ = [some (.ref m), some (.int p), some (.ref ca), some (.ref lp), some (.ref d), some (.ref a1), v6, some (.ref sp), none, v9]) ⟨s4, v6, v9, rfl⟩ (fun i σ H5 _ z => lst_of (z.1 _ _ hsp)) ?_ ?_⟩
          · rintro i2 v σ H5 hi2 ⟨s5, v6, v9, rfl⟩
            rw [List.getElem?_map] at hi2
            obtain ⟨a2, ha2, rfl⟩ := Option.map_eq_some_iff.mp hi2
            obtain ⟨B2, gB, kB⟩ := Pc a2 (List.mem_of_getElem? ha2)
            first | refine sigN [some (.ref m), some (.int (p)), some (.ref ca), some (.ref lp), some (.ref d), some (.ref a1), some (.ref a2), some (.ref sp), none, v9] (by rfl) ?_ | refine sig [some (.ref m), some (.int (p)), some (.ref ca), some (.ref lp), some (.ref d), some (.ref a1), some (.ref a2), some (.ref sp), none, v9] (by rfl) ?_
            refine ⟨_, rfl, sp, rfl, ⟨_, lst_of (s5 _ _ hsp)⟩, for_list (K := K) (a := sp) (xs := cs.map V.ref) (fun i σ H6 => Same H3 H6 ∧ ∃ v9 : Option V, σ = [some (.ref m), some (.int p), some (.ref ca), some (.ref lp), some (.ref d), some (.ref a1), some (.ref a2), some (.ref sp), none, v9]) ⟨s5, v9, rfl⟩ (fun i σ H6 _ z => lst_of (z.1 _ _ hsp)) ?_ ?_⟩
            · rintro i3 v σ H6 hi3 ⟨s6, v9, rfl⟩
              rw [List.getElem?_map] at hi3
              obtain ⟨a3, ha3, rfl⟩ := Option.map_eq_some_iff.mp hi3
              obtain ⟨C, gC, kC⟩ := Pc a3 (List.mem_of_getElem? ha3)
              first | refine sigN [some (.ref m), some (.int (p)), some (.ref ca), some (.ref lp), some (.ref d), some (.ref a1), some (.ref a2), some (.ref sp), none, some (.ref a3)] (by rfl) ?_ | refine sig [some (.ref m), some (.int (p)), some (.ref ca), some (.ref lp), some (.ref d), some (.ref a1), some (.ref a2), some (.ref sp), none, some (.ref a3)] (by rfl) ?_
              refine ⟨_, rfl, _, rfl, _, rfl, _, rfl, (by show 2 ≤ sizeLine; decide), fun u1 n1 => ?_⟩
              have s7 := Same.new (H := H6) (p := u1) (o := .tup [.ref a1, .ref a2]) n1
              have g1 : upd H6 u1 (.tup [.ref a1, .ref a2]) u1 = some (.tup [.ref a1, .ref a2]) := upd_same
              generalize upd H6 u1 (.tup [.ref a1, .ref a2]) = H7 at s7 g1 ⊢
              have s37 := s6.trans s7
              obtain ⟨kvs, nk, lk, sk⟩ := T3.same s37
              obtain ⟨t1, e1, h1⟩ := sk A B2 ⟨kA, kB⟩
              refine ⟨d, u1, kvs, (pk A, pk B2), _, rfl, rfl, nk, ka_mk (K := K) g1 (s37 _ _ gA) (s37 _ _ gB), e1, ?_⟩
              refine ⟨_, rfl, (by show 2 ≤ sizeLine; decide), fun u2 n2 => ?_⟩
              have s8 := Same.new (H := H7) (p := u2) (o := .tup [.ref t1, .ref a3]) n2
              have g2 : upd H7 u2 (.tup [.ref t1, .ref a3]) u2 = some (.tup [.ref t1, .ref a3]) := upd_same
              generalize upd H7 u2 (.tup [.ref t1, .ref a3]) = H8 at s8 g2 ⊢
              have s38 := s37.trans s8
              obtain ⟨kvs, nk, lk, sk⟩ := T3.same s38
              obtain ⟨t2, e2, h2⟩ := sk (psum p c A B2) C ⟨ok.sum kA kB, kC⟩
              refine ⟨d, u2, kvs, (pk (psum p c A B2), pk C), _, rfl, rfl, nk, ka_mk (K := K) g2 (s8 _ _ h1) (s38 _ _ gC), e2, ?_⟩
              refine ⟨_, rfl, _, rfl, _, rfl, _, rfl, _, rfl, (by show 2 ≤ sizeLine; decide), fun u3 n3 => ?_⟩
              have s9 := Same.new (H := H8) (p := u3) (o := .tup [.ref a2, .ref a3]) n3
              have g3 : upd H8 u3 (.tup [.ref a2, .ref a3]) u3 = some (.tup [.ref a2, .ref a3]) := upd_same
              generalize upd H8 u3 (.tup [.ref a2, .ref a3]) = H9 at s9 g3 ⊢
              have s39 := s38.trans s9
              obtain ⟨kvs, nk, lk, sk⟩ := T3.same s39
              obtain ⟨t3, e3, h3⟩ := sk B2 C ⟨kB, kC⟩
              refine ⟨d, u3, kvs, (pk B2, pk C), _, rfl, rfl, nk, ka_mk (K := K) g3 (s39 _ _ gB) (s39 _ _ gC), e3, ?_⟩
              refine ⟨(by show 2 ≤ sizeLine; decide), fun u4 n4 => ?_⟩
              have sa := Same.new (H := H9) (p := u4) (o := .tup [.ref a1, .ref t3]) n4
              have g4 : upd H9 u4 (.tup [.ref a1, .ref t3]) u4 = some (.tup [.ref a1, .ref t3]) := upd_same
              generalize upd H9 u4 (.tup [.ref a1, .ref t3]) = Ha at sa g4 ⊢
              have s3a := s39.trans sa
              obtain ⟨kvs, nk, lk, sk⟩ := T3.same s3a
              obtain ⟨t4, e4, h4⟩ := sk A (psum p c B2 C) ⟨kA, ok.sum kB kC⟩
              refine ⟨d, u4, kvs, (pk A, pk (psum p c B2 C)), _, rfl, rfl, nk, ka_mk (K := K) g4 (s3a _ _ gA) (sa _ _ h3), e4, ?_⟩
              refine ⟨_, _, dpt (sa _ _ (s9 _ _ h2)), dpt h4, shp _, shp _, _, rfl, ?_⟩
              rw [eqv_pt, decide_eq_true (ok.assoc kA kB kC)]
              refine iteF ?_
              exact ⟨s3a, _, rfl⟩
            · rintro σ H6 ⟨s6, v9, rfl⟩
              exact ⟨s6, _, _, rfl⟩
          · rintro σ H5 ⟨s5, v6, v9, rfl⟩
            exact ⟨s5, _, _, _, rfl⟩
        · rintro σ H4 ⟨s4, v5, v6, v9, rfl⟩
          exact q _ (bE.trans (But.of s4))
end
end K41
set_option Elab.async false
set_option linter.all false
set_option maxRecDepth 100000
set_option maxHeartbeats 4000000
namespace K41
open PySem PySem.Spec PyProof.Rows L2 Gd QM K45M EcZ
theorem zmul_ok {p : Int} {c : C5} {A : EcZ.Pt} (ok : Okc p c) (h : PtK p c A) (n : Int) : PtK p c (zmul p c A n) := by
  unfold zmul
  split
  · exact smul_ok ok (pneg_ok ok.p0 h) _
  · exact smul_ok ok h _
section
variable {P : Program} {w : World} {K : PySem.W.Frag} {mg : Str → Option Value} {base : Heap}
def sp_law_right (K : PySem.W.Frag) : Sp := fun vs H Q _ => ∃ (m cl : Addr), vs = [.ref m] ∧ MAt H m cl 0 ∧ ∀ H', But m H H' → Q (.bl true) H'
abbrev s__law_right : Stmt := topS 22
theorem sc__law_right : FnScope ["m", "p", "five", "points", "k", "turn", "n", "point"] ["m"] (defScope s__law_right) := ⟨rfl, rfl, rfl, by decide +kernel, rfl, by decide +kernel, by decide +kernel⟩
theorem k_law_right (T : Tx K mg) (D : Df K mg "_law_right" s__law_right ["m"]) (c_law_over_p : Kl P w K mg base 3 "_law_over_p" (sp_law_over_p K)) (c_law_p_points : Kl P w K mg base 1 "_law_p_points" (sp_law_p_points K)) (c_law_brackets_right : Kl P w K mg base 3 "_law_brackets_right" (sp_law_brackets_right K)) (c_law_sums_right : Kg P w K mg base 3 "_law_sums_right" (sp_law_sums_right K)) (c_law_of : Kl P w K mg base 2 "_law_of" (sp_law_of K)) (c_multiple_over : Kl P w K mg base 3 "multiple_over" (sp_multiple_over K)) (c_law_multiple : Kl P w K mg base 4 "_law_multiple" (sp_law_multiple K)) (c_law_between : Kl P w K mg base 2 "_law_between" (sp_law_between K)) : Kg P w K mg base 5 "_law_right" (sp_law_right K) := by
  have nd := sc__law_right.nd
  refine Kg.by_body D sc__law_right (fun vs H Q E h => ?_) (fun f cdv A outer s H vs Q E hgd hr h => ?_)
  · obtain ⟨_, _, rfl, _⟩ := h
    rfl
  · obtain ⟨m, cl, rfl, hM, q⟩ := h
    have hu1 := hu_of hr
    refine ⟨_, (pss_cons (ps_asg (pe_k c_law_over_p  hr (by decide) (by rfl) (pa_cons (pv 0) (pa_cons (pe_lst (pa_cons pe_int (pa_cons pe_int (pa_cons pe_int (pa_cons pe_int (pa_cons pe_int (pa_cons pe_int (pa_cons pe_int (pa_cons pe_int (pa_cons pe_int pa_nil)))))))))) pa_nil))) (pg_tup rfl (pgs_cons (pg_name (i := 1) nd rfl (by first | exact Or.inl rfl | exact Or.inr rfl)) (pgs_cons (pg_name (i := 2) nd rfl (by first | exact Or.inl rfl | exact Or.inr rfl)) pgs_nil))))
      (pss_cons (ps_set (i := 3) nd rfl (by first | exact Or.inl rfl | exact Or.inr rfl) (pe_k c_law_p_points  hr (by decide) (by rfl) (pa_cons (pv 1) (pa_cons (pv 2) pa_nil))))
      (C8.pss_cut (ps_if (pt_not (pt_val (pe_g c_law_sums_right hgd hr (by decide) (by rfl) (pa_cons (pv 1) (pa_cons (pv 2) (pa_cons (pe_ifExp (pt_cmpR op_lt (pe_callB call_len_seq (by rfl) T.len (by decide +kernel) (pa_cons (pv 3) pa_nil)) pe_int (nomark _)) (pv 3) (pe_lc (own := [("k", 4)]) (g := gName 4) rfl nd (pi_range1 (by rfl) T.range (pa_cons pe_int pa_nil)) (blkOk_by (N := ["m", "p", "five", "points", "k", "turn", "n", "point"]) (sc := defScope s__law_right) (by decide +kernel)) (fun _ _ _ _ _ => (pg_name (i := 4) nd rfl (by first | exact Or.inl rfl | exact Or.inr rfl))) (fun _ _ _ _ _ => pts_nil) (fun _ _ _ _ _ => (pe_k c_law_of  hr (by decide) (by rfl) (pa_cons (pv 0) (pa_cons (pv 3) pa_nil)))))) pa_nil)))))) (pss_one (ps_ret pe_bl)) pss_nil)
      (pss_cons (ps_for PassesOwn.never rfl (pi_range1 (by rfl) T.range (pa_cons pe_int pa_nil)) (pg_name (i := 5) nd rfl (by first | exact Or.inl rfl | exact Or.inr rfl)) (pss_cons (ps_par (i := 6) (j := 7) (by rfl) nd rfl rfl (by decide) rfl rfl (pa_cons (pe_k c_law_of  hr (by decide) (by rfl) (pa_cons (pv 0) (pa_cons (pe_lst (pa_cons pe_int (pa_cons pe_int (pa_cons (pe_un un_neg pe_int) (pa_cons pe_int (pa_cons (pe_op op_add (pe_op op_pow pe_int pe_int) pe_int) (pa_cons (pe_un un_neg (pe_op op_pow pe_int pe_int)) (pa_cons (pe_k c_law_between  hr (by decide) (by rfl) (pa_cons (pv 0) (pa_cons pe_int pa_nil))) pa_nil)))))))) pa_nil))) (pa_cons (pe_k c_law_of  hr (by decide) (by rfl) (pa_cons (pv 0) (pa_cons (pv 3) pa_nil))) pa_nil)) (by rfl))
      (pss_one (ps_if (pt_cmpR op_ne (pe_callB (call_reprD hgd hr.units) (by rfl) T.repr (by decide +kernel) (pa_cons (pe_k c_multiple_over  hr (by decide) (by rfl) (pa_cons (pv 1) (pa_cons (pv 2) (pa_cons (pv 6) (pa_cons (pv 7) pa_nil))))) pa_nil)) (pe_callB (call_reprD hgd hr.units) (by rfl) T.repr (by decide +kernel) (pa_cons (pe_k c_law_multiple  hr (by decide) (by rfl) (pa_cons (pv 1) (pa_cons (pv 2) (pa_cons (pv 6) (pa_cons (pv 7) pa_nil))))) pa_nil)) (nomark _)) (pss_one (ps_ret pe_bl)) pss_nil))))
      (pss_one (ps_ret (pe_k c_law_brackets_right  hr (by decide) (by rfl) (pa_cons (pv 0) (pa_cons (pv 1) (pa_cons (pv 2) (pa_cons (pv 3) pa_nil))))))))))), ?_⟩
    refine ⟨.ref m, rfl, (by show 9 ≤ sizeLine; decide), fun l nl => ?_⟩
    have s1 := Same.new (H := H) (p := l) (o := .lst [.int 2, .int 3, .int 5, .int 7, .int 11, .int 13, .int 17, .int 19, .int 23]) nl
    have gl : upd H l (.lst [.int 2, .int 3, .int 5, .int 7, .int 11, .int 13, .int 17, .int 19, .int 23]) l = some (.lst [.int 2, .int 3, .int 5, .int 7, .int 11, .int 13, .int 17, .int 19, .int 23]) := upd_same
    generalize upd H l (.lst [.int 2, .int 3, .int 5, .int 7, .int 11, .int 13, .int 17, .int 19, .int 23]) = H1 at s1 gl ⊢
    refine ⟨m, cl, l, 0, [2, 3, 5, 7, 11, 13, 17, 19, 23], rfl, lst_of gl, by decide, by decide, fun p hp => prl_all p (by simp only [List.mem_cons, List.not_mem_nil, or_false] at hp ⊢; omega), by decide, hM.same s1, fun H2 t ca p c b2 m2 ht hc ok => ?_⟩
    refine ⟨t, _, rfl, ht, rfl, _, _, rfl, _, _, rfl, rfl, ?_⟩
    first | refine sigN [some (.ref m), some (.int (p)), some (.ref ca), none, none, none, none, none] (by rfl) ?_ | refine sig [some (.ref m), some (.int (p)), some (.ref ca), none, none, none, none, none] (by rfl) ?_
    refine ⟨_, rfl, _, rfl, p, c, ca, rfl, ok, hc, fun H3 lp bs s3 hlp hP hl => ?_⟩
    first | refine sigN [some (.ref m), some (.int (p)), some (.ref ca), some (.ref lp), none, none, none, none] (by rfl) ?_ | refine sig [some (.ref m), some (.int (p)), some (.ref ca), some (.ref lp), none, none, none, none] (by rfl) ?_
    have m3 := m2.same s3
    have b03 : But m H H3 := (But.of s1).trans (b2.trans (But.of s3))
    have hc3 := Same.tup s3 hc
    have P3 := hP.ps ok
    have lb : 0 < bs.length := by
      rw [Paired.length hP]
      exact Nat.succ_pos _
    have hp9 := ok.le
    refine ⟨fun σ' H4 => But m H3 H4 ∧ MAt H4 m cl 340 ∧ ∃ v4 : Option V, σ' = [some (.ref m), some (.int p), some (.ref ca), some (.ref lp), v4, none, none, none], ?_, ?_⟩
    · refine ⟨_, rfl, _, rfl, _, rfl, lp, _, rfl, .inl (lst_of hlp), _, _, rfl, rfl, _, rfl, ite2 (fun _ => ?_) (fun _ => ?_)⟩
      · refine ⟨_, rfl, p, c, ca, lp, bs, rfl, ok, hc3, hlp, P3, fun H4 s4 => ⟨_, rfl, ?_⟩⟩
        refine iteN (by decide) ?_
        exact ⟨But.of s4, (m3.same s4).up (by decide), _, rfl⟩
      · refine ⟨12, rfl, by decide, by decide, fun D hD => ?_⟩
        have hmD := m3.ne hD
        refine lc_range (lo := 0) (n := 12) (fun j H4 => ∃ cs : List Addr, H4 D = some (.lst (cs.map V.ref)) ∧ cs.length = j ∧ (∀ b ∈ cs, b ∈ bs) ∧ But m H3 H4 ∧ MAt H4 m cl (301 + j)) ⟨[], upd_same, rfl, (by simp), But.of (Same.new hD), m3.same (Same.new hD)⟩ (fun j H4 hj z => ?_) (fun H4 z => ?_)
        · obtain ⟨cs, hcs, el, hsub, b4, m4⟩ := z
          have hlp4 := b4.lst m3 hlp
          refine ⟨rfl, _, rfl, _, rfl, m, cl, lp, _, 301 + j, rfl, lst_of hlp4, by rw [List.length_map]; exact lb, by rw [List.length_map]; exact hl, by omega, m4, fun H5 y b5 m5 hy => ?_⟩
          obtain ⟨b, hb, rfl⟩ := List.mem_map.mp hy
          refine ⟨_, b5.lst m4 hcs, by rw [List.length_map]; exact small1000 (by omega), cs ++ [b], ?_, by rw [List.length_append, el]; rfl, ?_, fun c o e nc => ?_, ?_⟩
          · rw [upd_same, List.map_append]
            rfl
          · intro x hx
            rcases List.mem_append.mp hx with hx | hx
            · exact hsub x hx
            · rw [List.mem_singleton.mp hx]
              exact hb
          · rw [upd_ne (ne_of_none e hD)]
            exact (b4.trans b5) c o e nc
          · exact m5.put hmD
        obtain ⟨cs, hcs, el, hsub, b4, m4⟩ := z
        refine ⟨p, c, ca, D, cs, rfl, ok, b4.seqT m3 hc3, hcs, fun x hx => ?_, fun H5 s5 => ⟨_, rfl, ?_⟩⟩
        · obtain ⟨A, g, k⟩ := P3 x (hsub x hx)
          exact ⟨A, b4.tup m3 g, k⟩
        · refine iteN (by decide) ?_
          exact ⟨b4.trans (But.of s5), (m4.same s5).up (by decide), _, rfl⟩
    rintro σ' H4 ⟨b4, m4, v4, rfl⟩
    refine ⟨6, rfl, by decide, by decide, for_range (lo := 0) (n := 6) (fun i σ H5 => But m H4 H5 ∧ MAt H5 m cl (340 + 3 * i) ∧ ∃ v4 v5 v6 v7 : Option V, σ = [some (.ref m), some (.int p), some (.ref ca), some (.ref lp), v4, v5, v6, v7]) ⟨But.refl m _, m4, v4, none, none, none, rfl⟩ ?_ ?_⟩
    · rintro i σ H5 hi ⟨b5, m5, v4, v5, v6, v7, rfl⟩
      first | refine sigN [some (.ref m), some (.int (p)), some (.ref ca), some (.ref lp), v4, some (.int (0 + (i : Int))), v6, v7] (by rfl) ?_ | refine sig [some (.ref m), some (.int (p)), some (.ref ca), some (.ref lp), v4, some (.int (0 + (i : Int))), v6, v7] (by rfl) ?_
      have b35 := b4.trans b5
      refine ⟨_, rfl, _, rfl, _, _, rfl, rfl, ⟨by decide, by decide, by decide⟩, _, _, rfl, rfl, _, _, rfl, rfl, ⟨by decide, by decide, by decide⟩, _, rfl, _, rfl, m, cl, 60, _, rfl, by decide, by decide, by omega, m5, fun H6 r b6 m6 r0 r1 => ?_⟩
      refine ⟨(by show 7 ≤ sizeLine; decide), fun l2 nl2 => ?_⟩
      have s7 := Same.new (H := H6) (p := l2) (o := .lst [V.int 0, V.int 1, (fun i => V.int (-i)) 1, V.int 2, (fun i j => V.int (i + j)) (10 ^ Int.toNat 20) 7, (fun i => V.int (-i)) (10 ^ Int.toNat 9), V.int r]) nl2
      have gl2' : upd H6 l2 (.lst [V.int 0, V.int 1, (fun i => V.int (-i)) 1, V.int 2, (fun i j => V.int (i + j)) (10 ^ Int.toNat 20) 7, (fun i => V.int (-i)) (10 ^ Int.toNat 9), V.int r]) l2 = some (.lst [V.int 0, V.int 1, (fun i => V.int (-i)) 1, V.int 2, (fun i j => V.int (i + j)) (10 ^ Int.toNat 20) 7, (fun i => V.int (-i)) (10 ^ Int.toNat 9), V.int r]) := upd_same
      generalize upd H6 l2 (.lst [V.int 0, V.int 1, (fun i => V.int (-i)) 1, V.int 2, (fun i j => V.int (i + j)) (10 ^ Int.toNat 20) 7, (fun i => V.int (-i)) (10 ^ Int.toNat 9), V.int r]) = H7 at s7 gl2' ⊢
      have gl2 : H7 l2 = some (.lst (([0, 1, -1, 2, 10 ^ (20 : Int).toNat + 7, -(10 ^ (9 : Int).toNat), r] : List Int).map V.int)) := gl2'
      have m7 := m6.same s7
      refine ⟨m, cl, l2, _, _, rfl, lst_of gl2, (by show 0 < 7; decide), (by show 7 ≤ 1000; decide), by omega, m7, fun H8 y b8 m8 hy => ?_⟩
      obtain ⟨n, hn, rfl⟩ := List.mem_map.mp hy
      have nB : B 80 n := by
        simp only [List.mem_cons, List.not_mem_nil, or_false] at hn
        rcases hn with rfl | rfl | rfl | rfl | rfl | rfl | rfl <;> first | exact B.lit (by decide) | (unfold Gd.B; omega)
      have b38 := b35.trans (b6.trans ((But.of s7).trans b8))
      have hlp8 := b38.lst m3 hlp
      refine ⟨_, rfl, _, rfl, m, cl, lp, _, _, rfl, lst_of hlp8, by rw [List.length_map]; exact lb, by rw [List.length_map]; exact hl, by omega, m8, fun H9 y2 b9 m9 hy2 => ⟨_, _, rfl, ?_⟩⟩
      obtain ⟨b, hb, rfl⟩ := List.mem_map.mp hy2
      obtain ⟨A, gA, kA⟩ := P3 b hb
      have b39 := b38.trans b9
      have gA9 := b39.tup m3 gA
      have hc9 := b39.seqT m3 hc3
      first | refine sigN [some (.ref m), some (.int (p)), some (.ref ca), some (.ref lp), v4, some (.int (0 + (i : Int))), some (.int (n)), some (.ref b)] (by rfl) ?_ | refine sig [some (.ref m), some (.int (p)), some (.ref ca), some (.ref lp), v4, some (.int (0 + (i : Int))), some (.int (n)), some (.ref b)] (by rfl) ?_
      obtain ⟨k1, k2, k3⟩ := rd_pt hp9 (zmul_ok ok kA n).dgp
      refine ⟨_, rfl, _, rfl, _, rfl, _, rfl, p, c, ca, b, n, A, rfl, ok, hc9, nB, gA9, kA, fun Ha t sa ha => ⟨_, _, rfl, dpt ha, k1, k2, k3, ?_⟩⟩
      refine ⟨_, rfl, _, rfl, _, rfl, _, rfl, p, c, ca, b, n, A, rfl, ok, Same.tup sa hc9, nB, sa _ _ gA9, kA, fun Hb t' sb hb => ⟨_, _, rfl, dpt hb, k1, k2, k3, ?_⟩⟩
      generalize (dPt (zmul p c A n)).shown = S
      refine ⟨rfl, _, rfl, iteN (by simp) ?_⟩
      have sab := sa.trans sb
      exact ⟨b5.trans (b6.trans ((But.of s7).trans (b8.trans (b9.trans (But.of sab))))), (m9.same sab).up (by omega), _, _, _, _, rfl⟩
    · rintro σ H5 ⟨b5, m5, v4, v5, v6, v7, rfl⟩
      have b35 := b4.trans b5
      refine ⟨_, rfl, _, rfl, _, rfl, _, rfl, m, cl, p, c, ca, lp, bs, _, rfl, ok, b35.seqT m3 hc3, (by show 340 + 3 * 6 ≤ 900000; decide), m5, b35.lst m3 hlp, Paired.mapP hP fun _ _ z => b35.tup m3 z, hl, fun H6 b6 => ?_⟩
      exact q _ (b03.trans (b35.trans b6))
def sp_law (K : PySem.W.Frag) : Sp := fun vs H Q _ => ∃ (a : Addr) (ns : List Int), vs = [.ref a] ∧ SqL K H a (ns.map V.int) ∧ ns.length ≤ 63 ∧ ∀ H', Q (.bl true) H'
abbrev s_law : Stmt := topS 23
theorem sc_law : FnScope ["script", "k"] ["script"] (defScope s_law) := ⟨rfl, rfl, rfl, by decide +kernel, rfl, by decide +kernel, by decide +kernel⟩
theorem k_law {fl : Addr} {fdl : FuncData} (T : Tx K mg) (Fl : Fun K "law" "law" s_law fl fdl) (c_law_right : Kg P w K mg base 5 "_law_right" (sp_law_right K)) (c_law_begun : Kl P w K mg base 1 "_law_begun" (sp_law_begun K)) : FnG P w K mg base 6 fl fdl ["script"] (sp_law K) := by
  have nd := sc_law.nd
  refine FnG.by_body Fl sc_law (fun vs H Q E h => ?_) (fun cdv A outer s H vs Q E hgd hr h => ?_)
  · obtain ⟨_, _, rfl, _⟩ := h
    rfl
  · obtain ⟨a, ns, rfl, hx, hl, q⟩ := h
    have hu1 := hu_of hr
    refine ⟨_, (pss_cons (ps_for PassesOwn.never rfl (pi_range1 (by rfl) T.range (pa_cons (pe_op op_add pe_int (pe_callB (call_min2 rfl) (by rfl) T.min (by decide +kernel) (pa_cons (pe_callB call_len_seq (by rfl) T.len (by decide +kernel) (pa_cons (pv 0) pa_nil)) (pa_cons pe_int pa_nil)))) pa_nil)) (pg_name (i := 1) nd rfl (by first | exact Or.inl rfl | exact Or.inr rfl)) (pss_one (ps_if (pt_not (pt_val (pe_g c_law_right hgd hr (by decide) (by rfl) (pa_cons (pe_k c_law_begun  hr (by decide) (by rfl) (pa_cons (pv 0) (pa_cons (pv 1) pa_nil))) pa_nil)))) (pss_one (ps_ret pe_bl)) pss_nil)))
      (pss_one (ps_ret pe_bl))), ?_⟩
    obtain ⟨j, hj, j0, j1⟩ : ∃ j : Int, (2 : Int) + (if (2 : Int) < ((ns.map V.int).length : Int) then 2 else ((ns.map V.int).length : Int)) = j ∧ 0 ≤ j ∧ j ≤ 5 := ⟨_, rfl, by split <;> omega, by split <;> omega⟩
    refine ⟨.ref a, rfl, a, _, rfl, .inl hx, _, _, rfl, _, _, rfl, rfl, j, ?_, by omega, by omega, ?_⟩
    · rw [← hj]
    refine for_range (lo := 0) (n := j.toNat) (fun i σ H2 => Same H H2 ∧ ∃ v1 : Option V, σ = [some (.ref a), v1]) ⟨Same.refl _, none, rfl⟩ ?_ ?_
    · rintro i σ H2 hi ⟨s2, v1, rfl⟩
      first | refine sigN [some (.ref a), some (.int (0 + (i : Int)))] (by rfl) ?_ | refine sig [some (.ref a), some (.int (0 + (i : Int)))] (by rfl) ?_
      refine ⟨.ref a, rfl, _, rfl, a, _, ns, rfl, s2.seq hx, hl, by omega, by omega, fun H3 m cl s3 nm ncl hM => ?_⟩
      refine ⟨m, cl, rfl, hM, fun H4 b4 => ?_⟩
      refine ⟨_, rfl, ?_⟩
      refine iteN (by decide) ?_
      exact ⟨s2.trans (But.same s3 b4 nm), _, rfl⟩
    · rintro σ H2 ⟨s2, v1, rfl⟩
      exact q _
end
end K41
set_option Elab.async false
set_option linter.all false
set_option maxRecDepth 100000
set_option maxHeartbeats 4000000
namespace K41
open PySem PySem.Spec PyProof.Rows L2 Gd
theorem all_mk {P : Program} {w : World} {K : PySem.W.Frag} {h : Heap} {mg : Str → Option Value} {fa : Addr} (X : K.In h) (G : h.Ns mainGlobals mg) (hfa : mg "law" = some (.ref fa))
    {f1 : Addr} {od1 an1 : Option Addr} {sl1 : Array (Option Value)} {oc1 kV1 dc1 pm1 cd1 ct1 : Value}
    {f3 : Addr} {od3 an3 : Option Addr} {sl3 : Array (Option Value)} {oc3 kV3 dc3 pm3 cd3 ct3 : Value}
    {f4 : Addr} {od4 an4 : Option Addr} {sl4 : Array (Option Value)} {oc4 kV4 dc4 pm4 cd4 ct4 : Value}
    {f5 : Addr} {od5 an5 : Option Addr} {sl5 : Array (Option Value)} {oc5 kV5 dc5 pm5 cd5 ct5 : Value}
    {f7 : Addr} {od7 an7 : Option Addr} {sl7 : Array (Option Value)} {oc7 kV7 dc7 pm7 cd7 ct7 : Value}
    {f8 : Addr} {od8 an8 : Option Addr} {sl8 : Array (Option Value)} {oc8 kV8 dc8 pm8 cd8 ct8 : Value}
    {f9 : Addr} {od9 an9 : Option Addr} {sl9 : Array (Option Value)} {oc9 kV9 dc9 pm9 cd9 ct9 : Value}
    {f10 : Addr} {od10 an10 : Option Addr} {sl10 : Array (Option Value)} {oc10 kV10 dc10 pm10 cd10 ct10 : Value}
    {f11 : Addr} {od11 an11 : Option Addr} {sl11 : Array (Option Value)} {oc11 kV11 dc11 pm11 cd11 ct11 : Value}
    {f12 : Addr} {od12 an12 : Option Addr} {sl12 : Array (Option Value)} {oc12 kV12 dc12 pm12 cd12 ct12 : Value}
    {f13 : Addr} {od13 an13 : Option Addr} {sl13 : Array (Option Value)} {oc13 kV13 dc13 pm13 cd13 ct13 : Value}
    {f14 : Addr} {od14 an14 : Option Addr} {sl14 : Array (Option Value)} {oc14 kV14 dc14 pm14 cd14 ct14 : Value}
    {f15 : Addr} {od15 an15 : Option Addr} {sl15 : Array (Option Value)} {oc15 kV15 dc15 pm15 cd15 ct15 : Value}
    {f16 : Addr} {od16 an16 : Option Addr} {sl16 : Array (Option Value)} {oc16 kV16 dc16 pm16 cd16 ct16 : Value}
    {f17 : Addr} {od17 an17 : Option Addr} {sl17 : Array (Option Value)} {oc17 kV17 dc17 pm17 cd17 ct17 : Value}
    {f18 : Addr} {od18 an18 : Option Addr} {sl18 : Array (Option Value)} {oc18 kV18 dc18 pm18 cd18 ct18 : Value}
    {f19 : Addr} {od19 an19 : Option Addr} {sl19 : Array (Option Value)} {oc19 kV19 dc19 pm19 cd19 ct19 : Value}
    {f20 : Addr} {od20 an20 : Option Addr} {sl20 : Array (Option Value)} {oc20 kV20 dc20 pm20 cd20 ct20 : Value}
    {f21 : Addr} {od21 an21 : Option Addr} {sl21 : Array (Option Value)} {oc21 kV21 dc21 pm21 cd21 ct21 : Value}
    {f22 : Addr} {od22 an22 : Option Addr} {sl22 : Array (Option Value)} {oc22 kV22 dc22 pm22 cd22 ct22 : Value}
    {f23 : Addr} {od23 an23 : Option Addr} {sl23 : Array (Option Value)} {oc23 kV23 dc23 pm23 cd23 ct23 : Value}
    (a1 : PySem.W.nsIn K mainGlobals "inverse_mod" = some (some (.ref f1))) (l1 : K.lookup f1 = some ⟨oc1, od1, .func (PySem.W.fnOf "inverse_mod" "inverse_mod" (defArgs s_inverse_mod) (defBody s_inverse_mod) (defScope s_inverse_mod) .none kV1 dc1 pm1 an1 cd1 ct1), sl1⟩) (c1 : PySem.W.codeIn K cd1 "inverse_mod" = true) (k1 : PySem.W.keepIn K (.ref f1) = true)
    (a3 : PySem.W.nsIn K mainGlobals "opposite_over" = some (some (.ref f3))) (l3 : K.lookup f3 = some ⟨oc3, od3, .func (PySem.W.fnOf "opposite_over" "opposite_over" (defArgs s_opposite_over) (defBody s_opposite_over) (defScope s_opposite_over) .none kV3 dc3 pm3 an3 cd3 ct3), sl3⟩) (c3 : PySem.W.codeIn K cd3 "opposite_over" = true) (k3 : PySem.W.keepIn K (.ref f3) = true)
    (a4 : PySem.W.nsIn K mainGlobals "added_over" = some (some (.ref f4))) (l4 : K.lookup f4 = some ⟨oc4, od4, .func (PySem.W.fnOf "added_over" "added_over" (defArgs s_added_over) (defBody s_added_over) (defScope s_added_over) .none kV4 dc4 pm4 an4 cd4 ct4), sl4⟩) (c4 : PySem.W.codeIn K cd4 "added_over" = true) (k4 : PySem.W.keepIn K (.ref f4) = true)
    (a5 : PySem.W.nsIn K mainGlobals "multiple_over" = some (some (.ref f5))) (l5 : K.lookup f5 = some ⟨oc5, od5, .func (PySem.W.fnOf "multiple_over" "multiple_over" (defArgs s_multiple_over) (defBody s_multiple_over) (defScope s_multiple_over) .none kV5 dc5 pm5 an5 cd5 ct5), sl5⟩) (c5 : PySem.W.codeIn K cd5 "multiple_over" = true) (k5 : PySem.W.keepIn K (.ref f5) = true)
    (a7 : PySem.W.nsIn K mainGlobals "_law_begun" = some (some (.ref f7))) (l7 : K.lookup f7 = some ⟨oc7, od7, .func (PySem.W.fnOf "_law_begun" "_law_begun" (defArgs s__law_begun) (defBody s__law_begun) (defScope s__law_begun) .none kV7 dc7 pm7 an7 cd7 ct7), sl7⟩) (c7 : PySem.W.codeIn K cd7 "_law_begun" = true) (k7 : PySem.W.keepIn K (.ref f7) = true)
    (a8 : PySem.W.nsIn K mainGlobals "_law_draw" = some (some (.ref f8))) (l8 : K.lookup f8 = some ⟨oc8, od8, .func (PySem.W.fnOf "_law_draw" "_law_draw" (defArgs s__law_draw) (defBody s__law_draw) (defScope s__law_draw) .none kV8 dc8 pm8 an8 cd8 ct8), sl8⟩) (c8 : PySem.W.codeIn K cd8 "_law_draw" = true) (k8 : PySem.W.keepIn K (.ref f8) = true)
    (a9 : PySem.W.nsIn K mainGlobals "_law_of" = some (some (.ref f9))) (l9 : K.lookup f9 = some ⟨oc9, od9, .func (PySem.W.fnOf "_law_of" "_law_of" (defArgs s__law_of) (defBody s__law_of) (defScope s__law_of) .none kV9 dc9 pm9 an9 cd9 ct9), sl9⟩) (c9 : PySem.W.codeIn K cd9 "_law_of" = true) (k9 : PySem.W.keepIn K (.ref f9) = true)
    (a10 : PySem.W.nsIn K mainGlobals "_law_between" = some (some (.ref f10))) (l10 : K.lookup f10 = some ⟨oc10, od10, .func (PySem.W.fnOf "_law_between" "_law_between" (defArgs s__law_between) (defBody s__law_between) (defScope s__law_between) .none kV10 dc10 pm10 an10 cd10 ct10), sl10⟩) (c10 : PySem.W.codeIn K cd10 "_law_between" = true) (k10 : PySem.W.keepIn K (.ref f10) = true)
    (a11 : PySem.W.nsIn K mainGlobals "_law_numbers" = some (some (.ref f11))) (l11 : K.lookup f11 = some ⟨oc11, od11, .func (PySem.W.fnOf "_law_numbers" "_law_numbers" (defArgs s__law_numbers) (defBody s__law_numbers) (defScope s__law_numbers) .none kV11 dc11 pm11 an11 cd11 ct11), sl11⟩) (c11 : PySem.W.codeIn K cd11 "_law_numbers" = true) (k11 : PySem.W.keepIn K (.ref f11) = true)
    (a12 : PySem.W.nsIn K mainGlobals "_law_inverse" = some (some (.ref f12))) (l12 : K.lookup f12 = some ⟨oc12, od12, .func (PySem.W.fnOf "_law_inverse" "_law_inverse" (defArgs s__law_inverse) (defBody s__law_inverse) (defScope s__law_inverse) .none kV12 dc12 pm12 an12 cd12 ct12), sl12⟩) (c12 : PySem.W.codeIn K cd12 "_law_inverse" = true) (k12 : PySem.W.keepIn K (.ref f12) = true)
    (a13 : PySem.W.nsIn K mainGlobals "_law_p_turned" = some (some (.ref f13))) (l13 : K.lookup f13 = some ⟨oc13, od13, .func (PySem.W.fnOf "_law_p_turned" "_law_p_turned" (defArgs s__law_p_turned) (defBody s__law_p_turned) (defScope s__law_p_turned) .none kV13 dc13 pm13 an13 cd13 ct13), sl13⟩) (c13 : PySem.W.codeIn K cd13 "_law_p_turned" = true) (k13 : PySem.W.keepIn K (.ref f13) = true)
    (a14 : PySem.W.nsIn K mainGlobals "_law_p_sum" = some (some (.ref f14))) (l14 : K.lookup f14 = some ⟨oc14, od14, .func (PySem.W.fnOf "_law_p_sum" "_law_p_sum" (defArgs s__law_p_sum) (defBody s__law_p_sum) (defScope s__law_p_sum) .none kV14 dc14 pm14 an14 cd14 ct14), sl14⟩) (c14 : PySem.W.codeIn K cd14 "_law_p_sum" = true) (k14 : PySem.W.keepIn K (.ref f14) = true)
    (a15 : PySem.W.nsIn K mainGlobals "_law_p_points" = some (some (.ref f15))) (l15 : K.lookup f15 = some ⟨oc15, od15, .func (PySem.W.fnOf "_law_p_points" "_law_p_points" (defArgs s__law_p_points) (defBody s__law_p_points) (defScope s__law_p_points) .none kV15 dc15 pm15 an15 cd15 ct15), sl15⟩) (c15 : PySem.W.codeIn K cd15 "_law_p_points" = true) (k15 : PySem.W.keepIn K (.ref f15) = true)
    (a16 : PySem.W.nsIn K mainGlobals "_law_over_p" = some (some (.ref f16))) (l16 : K.lookup f16 = some ⟨oc16, od16, .func (PySem.W.fnOf "_law_over_p" "_law_over_p" (defArgs s__law_over_p) (defBody s__law_over_p) (defScope s__law_over_p) .none kV16 dc16 pm16 an16 cd16 ct16), sl16⟩) (c16 : PySem.W.codeIn K cd16 "_law_over_p" = true) (k16 : PySem.W.keepIn K (.ref f16) = true)
    (a17 : PySem.W.nsIn K mainGlobals "_law_line_third" = some (some (.ref f17))) (l17 : K.lookup f17 = some ⟨oc17, od17, .func (PySem.W.fnOf "_law_line_third" "_law_line_third" (defArgs s__law_line_third) (defBody s__law_line_third) (defScope s__law_line_third) .none kV17 dc17 pm17 an17 cd17 ct17), sl17⟩) (c17 : PySem.W.codeIn K cd17 "_law_line_third" = true) (k17 : PySem.W.keepIn K (.ref f17) = true)
    (a18 : PySem.W.nsIn K mainGlobals "_law_on_line" = some (some (.ref f18))) (l18 : K.lookup f18 = some ⟨oc18, od18, .func (PySem.W.fnOf "_law_on_line" "_law_on_line" (defArgs s__law_on_line) (defBody s__law_on_line) (defScope s__law_on_line) .none kV18 dc18 pm18 an18 cd18 ct18), sl18⟩) (c18 : PySem.W.codeIn K cd18 "_law_on_line" = true) (k18 : PySem.W.keepIn K (.ref f18) = true)
    (a19 : PySem.W.nsIn K mainGlobals "_law_sums_right" = some (some (.ref f19))) (l19 : K.lookup f19 = some ⟨oc19, od19, .func (PySem.W.fnOf "_law_sums_right" "_law_sums_right" (defArgs s__law_sums_right) (defBody s__law_sums_right) (defScope s__law_sums_right) .none kV19 dc19 pm19 an19 cd19 ct19), sl19⟩) (c19 : PySem.W.codeIn K cd19 "_law_sums_right" = true) (k19 : PySem.W.keepIn K (.ref f19) = true)
    (a20 : PySem.W.nsIn K mainGlobals "_law_multiple" = some (some (.ref f20))) (l20 : K.lookup f20 = some ⟨oc20, od20, .func (PySem.W.fnOf "_law_multiple" "_law_multiple" (defArgs s__law_multiple) (defBody s__law_multiple) (defScope s__law_multiple) .none kV20 dc20 pm20 an20 cd20 ct20), sl20⟩) (c20 : PySem.W.codeIn K cd20 "_law_multiple" = true) (k20 : PySem.W.keepIn K (.ref f20) = true)
    (a21 : PySem.W.nsIn K mainGlobals "_law_brackets_right" = some (some (.ref f21))) (l21 : K.lookup f21 = some ⟨oc21, od21, .func (PySem.W.fnOf "_law_brackets_right" "_law_brackets_right" (defArgs s__law_brackets_right) (defBody s__law_brackets_right) (defScope s__law_brackets_right) .none kV21 dc21 pm21 an21 cd21 ct21), sl21⟩) (c21 : PySem.W.codeIn K cd21 "_law_brackets_right" = true) (k21 : PySem.W.keepIn K (.ref f21) = true)
    (a22 : PySem.W.nsIn K mainGlobals "_law_right" = some (some (.ref f22))) (l22 : K.lookup f22 = some ⟨oc22, od22, .func (PySem.W.fnOf "_law_right" "_law_right" (defArgs s__law_right) (defBody s__law_right) (defScope s__law_right) .none kV22 dc22 pm22 an22 cd22 ct22), sl22⟩) (c22 : PySem.W.codeIn K cd22 "_law_right" = true) (k22 : PySem.W.keepIn K (.ref f22) = true)
    (a23 : PySem.W.nsIn K mainGlobals "law" = some (some (.ref f23))) (l23 : K.lookup f23 = some ⟨oc23, od23, .func (PySem.W.fnOf "law" "law" (defArgs s_law) (defBody s_law) (defScope s_law) .none kV23 dc23 pm23 an23 cd23 ct23), sl23⟩) (c23 : PySem.W.codeIn K cd23 "law" = true) (k23 : PySem.W.keepIn K (.ref f23) = true)
    (z_int : PySem.W.nsIn K mainGlobals "int" = some none)
    (z_len : PySem.W.nsIn K mainGlobals "len" = some none)
    (z_tuple : PySem.W.nsIn K mainGlobals "tuple" = some none)
    (z_range : PySem.W.nsIn K mainGlobals "range" = some none)
    (z_divmod : PySem.W.nsIn K mainGlobals "divmod" = some none)
    (z_min : PySem.W.nsIn K mainGlobals "min" = some none)
    (z_repr : PySem.W.nsIn K mainGlobals "repr" = some none)
    : ∃ fd : FuncData, (∀ (s : Shared) (v : Value), BindsTo s fd ⟨[v], []⟩ [("script", v)]) ∧ ∀ base : Heap, K.In base → base.Ns mainGlobals mg → FnG P w K mg base 6 fa fd ["script"] (sp_law K) := by
  have T : Tx K mg := ⟨PySem.W.mg_none_of X G z_int, PySem.W.mg_none_of X G z_len, PySem.W.mg_none_of X G z_tuple, PySem.W.mg_none_of X G z_range, PySem.W.mg_none_of X G z_divmod, PySem.W.mg_none_of X G z_min, PySem.W.mg_none_of X G z_repr⟩
  have d1 : Df K mg "inverse_mod" s_inverse_mod ["a", "m"] := df_mk X G a1 l1 c1 k1 (fun _ _ _ _ _ _ us hl => match us, hl with | [_, _], _ => rfl)
  have d3 : Df K mg "opposite_over" s_opposite_over ["p", "curve", "P"] := df_mk X G a3 l3 c3 k3 (fun _ _ _ _ _ _ us hl => match us, hl with | [_, _, _], _ => rfl)
  have d4 : Df K mg "added_over" s_added_over ["p", "curve", "P", "Q"] := df_mk X G a4 l4 c4 k4 (fun _ _ _ _ _ _ us hl => match us, hl with | [_, _, _, _], _ => rfl)
  have d5 : Df K mg "multiple_over" s_multiple_over ["p", "curve", "n", "P"] := df_mk X G a5 l5 c5 k5 (fun _ _ _ _ _ _ us hl => match us, hl with | [_, _, _, _], _ => rfl)
  have d7 : Df K mg "_law_begun" s__law_begun ["script", "k"] := df_mk X G a7 l7 c7 k7 (fun _ _ _ _ _ _ us hl => match us, hl with | [_, _], _ => rfl)
  have d8 : Df K mg "_law_draw" s__law_draw ["m", "below"] := df_mk X G a8 l8 c8 k8 (fun _ _ _ _ _ _ us hl => match us, hl with | [_, _], _ => rfl)
  have d9 : Df K mg "_law_of" s__law_of ["m", "some"] := df_mk X G a9 l9 c9 k9 (fun _ _ _ _ _ _ us hl => match us, hl with | [_, _], _ => rfl)
  have d10 : Df K mg "_law_between" s__law_between ["m", "size"] := df_mk X G a10 l10 c10 k10 (fun _ _ _ _ _ _ us hl => match us, hl with | [_, _], _ => rfl)
  have d11 : Df K mg "_law_numbers" s__law_numbers ["five"] := df_mk X G a11 l11 c11 k11 (fun _ _ _ _ _ _ us hl => match us, hl with | [_], _ => rfl)
  have d12 : Df K mg "_law_inverse" s__law_inverse ["a", "p"] := df_mk X G a12 l12 c12 k12 (fun _ _ _ _ _ _ us hl => match us, hl with | [_, _], _ => rfl)
  have d13 : Df K mg "_law_p_turned" s__law_p_turned ["p", "five", "point"] := df_mk X G a13 l13 c13 k13 (fun _ _ _ _ _ _ us hl => match us, hl with | [_, _, _], _ => rfl)
  have d14 : Df K mg "_law_p_sum" s__law_p_sum ["p", "five", "one", "two"] := df_mk X G a14 l14 c14 k14 (fun _ _ _ _ _ _ us hl => match us, hl with | [_, _, _, _], _ => rfl)
  have d15 : Df K mg "_law_p_points" s__law_p_points ["p", "five"] := df_mk X G a15 l15 c15 k15 (fun _ _ _ _ _ _ us hl => match us, hl with | [_, _], _ => rfl)
  have d16 : Df K mg "_law_over_p" s__law_over_p ["m", "primes"] := df_mk X G a16 l16 c16 k16 (fun _ _ _ _ _ _ us hl => match us, hl with | [_, _], _ => rfl)
  have d17 : Df K mg "_law_line_third" s__law_line_third ["p", "five", "one", "two"] := df_mk X G a17 l17 c17 k17 (fun _ _ _ _ _ _ us hl => match us, hl with | [_, _, _, _], _ => rfl)
  have d18 : Df K mg "_law_on_line" s__law_on_line ["p", "five", "one", "two", "all_points"] := df_mk X G a18 l18 c18 k18 (fun _ _ _ _ _ _ us hl => match us, hl with | [_, _, _, _, _], _ => rfl)
  have d19 : Df K mg "_law_sums_right" s__law_sums_right ["p", "five", "points"] := df_mk X G a19 l19 c19 k19 (fun _ _ _ _ _ _ us hl => match us, hl with | [_, _, _], _ => rfl)
  have d20 : Df K mg "_law_multiple" s__law_multiple ["p", "five", "n", "point"] := df_mk X G a20 l20 c20 k20 (fun _ _ _ _ _ _ us hl => match us, hl with | [_, _, _, _], _ => rfl)
  have d21 : Df K mg "_law_brackets_right" s__law_brackets_right ["m", "p", "five", "points"] := df_mk X G a21 l21 c21 k21 (fun _ _ _ _ _ _ us hl => match us, hl with | [_, _, _, _], _ => rfl)
  have d22 : Df K mg "_law_right" s__law_right ["m"] := df_mk X G a22 l22 c22 k22 (fun _ _ _ _ _ _ us hl => match us, hl with | [_], _ => rfl)
  refine law_fd X G hfa a23 l23 c23 k23 (fun _ _ _ _ _ _ us hl => match us, hl with | [_], _ => rfl) (fun fd F base => ?_)
  have c_inverse_mod := k_inverse_mod (P := P) (w := w) (base := base) T d1 
  have c_opposite_over := k_opposite_over (P := P) (w := w) (base := base) T d3 
  have c_law_begun := k_law_begun (P := P) (w := w) (base := base) T d7 
  have c_law_draw := k_law_draw (P := P) (w := w) (base := base) T d8 
  have c_law_numbers := k_law_numbers (P := P) (w := w) (base := base) T d11 
  have c_law_inverse := k_law_inverse (P := P) (w := w) (base := base) T d12 
  have c_law_p_turned := k_law_p_turned (P := P) (w := w) (base := base) T d13 
  have c_law_p_points := k_law_p_points (P := P) (w := w) (base := base) T d15 
  have c_law_on_line := k_law_on_line (P := P) (w := w) (base := base) T d18 
  have c_added_over := k_added_over (P := P) (w := w) (base := base) T d4 c_inverse_mod
  have c_law_of := k_law_of (P := P) (w := w) (base := base) T d9 c_law_draw
  have c_law_between := k_law_between (P := P) (w := w) (base := base) T d10 c_law_draw
  have c_law_p_sum := k_law_p_sum (P := P) (w := w) (base := base) T d14 c_law_p_turned c_law_inverse
  have c_law_line_third := k_law_line_third (P := P) (w := w) (base := base) T d17 c_law_p_points c_law_p_turned c_law_on_line
  have c_multiple_over := k_multiple_over (P := P) (w := w) (base := base) T d5 c_added_over c_opposite_over
  have c_law_over_p := k_law_over_p (P := P) (w := w) (base := base) T d16 c_law_of c_law_draw c_law_numbers
  have c_law_sums_right := k_law_sums_right (P := P) (w := w) (base := base) T d19 c_added_over c_law_line_third c_opposite_over c_law_p_turned c_law_p_sum
  have c_law_brackets_right := k_law_brackets_right (P := P) (w := w) (base := base) T d21 c_added_over c_law_of
  have c_law_multiple := k_law_multiple (P := P) (w := w) (base := base) T d20 c_law_p_turned c_law_p_sum
  have c_law_right := k_law_right (P := P) (w := w) (base := base) T d22 c_law_over_p c_law_p_points c_law_brackets_right c_law_sums_right c_law_of c_multiple_over c_law_multiple c_law_between
  exact k_law T F c_law_right c_law_begun
end K41
open PySem PySem.W PyProof.Rows
set_option maxRecDepth 100000 in
set_option maxHeartbeats 0 in
theorem PySem.Challenge.cw_pointsum_k41_whole_groups_over_p_holds : PySem.Challenge.rw_pointsum_k41_whole_groups_over_p.Holds := by
  w_on; o_law; k_head; (case hw => w_witness2)
  k_fill
  refine Gd.walk_g (l := PySem.Challenge.rw_pointsum_k41_whole_groups_over_p) (n := 63) (k := 6) (x := "script") (sp := fun K => K41.sp_law K) rfl (by decide) rfl ⟨rfl, by decide, by decide⟩ (fun w h Y => PySem.W.kIn_of Y) ?F (fun K H a ns hl hS => ⟨a, ns, rfl, hS, hl, fun _ => rfl⟩)
  case F =>
    intro w mg fa h KX G hmg
    refine' K41.all_mk KX G hmg ?a1 ?l1 ?c1 ?k1 ?a3 ?l3 ?c3 ?k3 ?a4 ?l4 ?c4 ?k4 ?a5 ?l5 ?c5 ?k5 ?a7 ?l7 ?c7 ?k7 ?a8 ?l8 ?c8 ?k8 ?a9 ?l9 ?c9 ?k9 ?a10 ?l10 ?c10 ?k10 ?a11 ?l11 ?c11 ?k11 ?a12 ?l12 ?c12 ?k12 ?a13 ?l13 ?c13 ?k13 ?a14 ?l14 ?c14 ?k14 ?a15 ?l15 ?c15 ?k15 ?a16 ?l16 ?c16 ?k16 ?a17 ?l17 ?c17 ?k17 ?a18 ?l18 ?c18 ?k18 ?a19 ?l19 ?c19 ?k19 ?a20 ?l20 ?c20 ?k20 ?a21 ?l21 ?c21 ?k21 ?a22 ?l22 ?c22 ?k22 ?a23 ?l23 ?c23 ?k23 ?z_int ?z_len ?z_tuple ?z_range ?z_divmod ?z_min ?z_repr
    (case a1 => k_is); (case l1 => k_is); (case c1 => k_is); (case k1 => k_is); (case a3 => k_is); (case l3 => k_is); (case c3 => k_is); (case k3 => k_is)
    (case a4 => k_is); (case l4 => k_is); (case c4 => k_is); (case k4 => k_is); (case a5 => k_is); (case l5 => k_is); (case c5 => k_is); (case k5 => k_is)
    (case a7 => k_is); (case l7 => k_is); (case c7 => k_is); (case k7 => k_is); (case a8 => k_is); (case l8 => k_is); (case c8 => k_is); (case k8 => k_is)
    (case a9 => k_is); (case l9 => k_is); (case c9 => k_is); (case k9 => k_is); (case a10 => k_is); (case l10 => k_is); (case c10 => k_is); (case k10 => k_is)
    (case a11 => k_is); (case l11 => k_is); (case c11 => k_is); (case k11 => k_is); (case a12 => k_is); (case l12 => k_is); (case c12 => k_is); (case k12 => k_is)
    (case a13 => k_is); (case l13 => k_is); (case c13 => k_is); (case k13 => k_is); (case a14 => k_is); (case l14 => k_is); (case c14 => k_is); (case k14 => k_is)
    (case a15 => k_is); (case l15 => k_is); (case c15 => k_is); (case k15 => k_is); (case a16 => k_is); (case l16 => k_is); (case c16 => k_is); (case k16 => k_is)
    (case a17 => k_is); (case l17 => k_is); (case c17 => k_is); (case k17 => k_is); (case a18 => k_is); (case l18 => k_is); (case c18 => k_is); (case k18 => k_is)
    (case a19 => k_is); (case l19 => k_is); (case c19 => k_is); (case k19 => k_is); (case a20 => k_is); (case l20 => k_is); (case c20 => k_is); (case k20 => k_is)
    (case a21 => k_is); (case l21 => k_is); (case c21 => k_is); (case k21 => k_is); (case a22 => k_is); (case l22 => k_is); (case c22 => k_is); (case k22 => k_is)
    (case a23 => k_is); (case l23 => k_is); (case c23 => k_is); (case k23 => k_is); (case z_int => k_is); (case z_len => k_is); (case z_tuple => k_is); (case z_range => k_is)
    (case z_divmod => k_is); (case z_min => k_is); (case z_repr => k_is)
