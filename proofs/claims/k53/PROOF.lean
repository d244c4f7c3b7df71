import PyProof.Rows.All
import Wide.All
import OpenK.AllK
import Wide.FinOn
import PyProof.ReprRoads
import HandS.ForMost
import HandS.Wide
import PyProof.StrLawsRepr
import PyProof.ReprLen
import HandS.TupAny
import HandS.Gcd
import HandS.More
import HandS.IsInst
import HandS.Style
import HandS.Defaults
import Flt.RightSqrt
import HandS.Codes
import HandS.WideBits
import KE.BitLaws
import HandS.TryOnly
import PySem.Challenge.RW_pointsum_k53_whole_concords
set_option Elab.async false
set_option linter.all false
set_option maxRecDepth 100000
/-! Promises that know that no repr is under way around the call; repr of plain data. -/
namespace Gd
open PySem PySem.Spec PyProof.Rows L2
/-- as the layer's FnOk, for calls around which nothing is being shown -/
structure FnG (P : Program) (w : World) (K : PySem.W.Frag) (mg : Str → Option Value) (base : Heap) (k : Nat) (f : Addr) (fd : FuncData) (ps : List Str) (sp : Sp) : Prop where
  many : ∀ vs H Q E, sp vs H Q E → vs.length = ps.length
  goes : ∀ (A : Around) (outer : List Env) (s : Shared) (H : Hp) (args : Args) (us : List Value) (vs : List V) (Q : VK) (E : XK), A.guards = some [] → Room k A → Env0 P w K mg base A outer s H →
    BindsTo s fd args (ps.zip us) → Vals vs us → sp vs H Q E → codeAny (model P w) A (.call (.ref f) args) (CR CX0 outer P w H s Q E) s
section
variable {P : Program} {w : World} {K : PySem.W.Frag} {mg : Str → Option Value} {base : Heap}
theorem FnG.of {k : Nat} {f : Addr} {fd : FuncData} {ps : List Str} {sp : Sp} (F : FnOk P w K mg base CX0 k f fd ps sp) : FnG P w K mg base k f fd ps sp :=
  ⟨F.len, fun A outer s H args us vs Q E _ => F.run A outer s H args us vs Q E⟩
theorem FnG.up {j k : Nat} {f : Addr} {fd : FuncData} {ps : List Str} {sp : Sp} (F : FnG P w K mg base j f fd ps sp) (h : j ≤ k) : FnG P w K mg base k f fd ps sp :=
  ⟨F.many, fun A outer s H args us vs Q E hg hr => F.goes A outer s H args us vs Q E hg (hr.mono h)⟩
/-- a def by its body -/
theorem FnG.by_body {x qual : Str} {st : Stmt} {f : Addr} {fd : FuncData} {N ps : List Str} {k : Nat} {sp : Sp} (F : Fun K x qual st f fd) (S : FnScope N ps (defScope st)) (len : ∀ vs H Q E, sp vs H Q E → vs.length = ps.length)
    (hb : ∀ (cdv : Value) (A : Around) (outer : List Env) (s : Shared) (H : Hp) (vs : List V) (Q : VK) (E : XK), A.guards = some [] → Room k (A.deeper (envOfC qual (defScope st) s.heap.objs.size f cdv)) → sp vs H Q E →
      ∃ t, PSs (cxOf CX0 P w K mg base N qual (defScope st) f cdv A outer s H E).nox (defBody st) t ∧ t { nx := fun _ H' => Q .non H', rt := Q } (start N vs) H) : FnG P w K mg base (k + 1) f fd ps sp := by
  obtain ⟨oc, od, kV, doc, pm, an, cdv, ct, osl, rfl, lk, hcd⟩ := F.ex
  constructor
  · exact len
  · intro A outer s H args us vs Q E hg hr e0 hbi rv hsp
    have hlen := len _ _ _ _ hsp
    have lim : s.heap.NoLimit := e0.mod.nolimit.keeps fun b o e => (e0.bs b o e).1
    have inK : K.In s.heap := e0.mod.kin.keeps fun b o e => (e0.bs b o e).1
    have kinds : ∀ y ∈ ps.zip us, (defScope st).names.lookup y.1 = some .local ∨ ((defScope st).names.lookup y.1 = some .cell ∧ ((cellsFrom (s.heap.objs.size + 1) (defScope st).names []).lookup y.1).isSome = true) := by
      rintro ⟨n, v⟩ hy
      have hp := S.par n (List.of_mem_zip hy).1
      cases hp with
      | inl q => exact Or.inl q
      | inr q => exact Or.inr ⟨q, PySem.W.cellsFrom_some _ _ _ (Or.inl q)⟩
    refine codeAny_call_function hr.depth (inK _ _ lk) rfl S.co S.gen rfl (PySem.W.codeRec_of inK hcd) (hbi _ _ _ _ ?_)
    refine wpAny_newFunctionEnv_cells S.kind kinds fun env he s1 x1 => ?_
    subst he
    refine ⟨lim.keeps x1.toInCall.keep, codeAny_func ?_⟩
    obtain ⟨t, ht, hq⟩ := hb cdv A outer s H vs Q E hg (hr.deeper _) hsp
    have I0 : Inv (cxOf CX0 P w K mg base N qual (defScope st) f cdv A outer s H E) [] (start N vs) H s1 := inv_start S hr.hd e0 hlen rv x1
    refine wpAny_mono (ht.nox.run [] s1 (start N vs) H _ I0 hq) (fun fl s' hs => ?_) fun e s' hs => hs
    match fl, hs with
    | .ret u, ⟨v, σ', H', J, r1, q1⟩ => exact ⟨v, H', J.os, J.bare, J.base, J.hok, r1, q1⟩
    | .next, ⟨σ', H', J, q1⟩ => exact ⟨V.non, H', J.os, J.bare, J.base, J.hok, rfl, q1⟩
    | .brk, ⟨_, _, _, q1⟩ => exact q1.elim
    | .cont, ⟨_, _, _, q1⟩ => exact q1.elim
end
/-- f(e, ..) where every parameter is given -/
def tKal (sp : Sp) (t : TA) : TE := fun σ H Q => t σ H fun vs H1 => sp vs H1 Q E0
/-- a def that may be called by its name -/
structure Kl (P : Program) (w : World) (K : PySem.W.Frag) (mg : Str → Option Value) (base : Heap) (k : Nat) (x : Str) (sp : Sp) : Prop where
  ex : ∃ (f : Addr) (fd : FuncData) (ps : List Str), FnOk P w K mg base CX0 k f fd ps sp ∧ mg x = some (.ref f) ∧ PySem.W.keepIn K (.ref f) = true ∧ Binds K fd ps []
structure Kg (P : Program) (w : World) (K : PySem.W.Frag) (mg : Str → Option Value) (base : Heap) (k : Nat) (x : Str) (sp : Sp) : Prop where
  ex : ∃ (f : Addr) (fd : FuncData) (ps : List Str), FnG P w K mg base k f fd ps sp ∧ mg x = some (.ref f) ∧ PySem.W.keepIn K (.ref f) = true ∧ Binds K fd ps []
section
variable {X : Cx} {j k : Nat} {f : Addr} {fd : FuncData} {ps : List Str} {sp : Sp} {x : Str} {p pos : Pos} {e : Expr} {es : List Expr} {t : TA}
theorem run_g {pins : List (Addr × Obj)} {σ : L2.St} {H : Hp} {s : Shared} {Q : VK} {us : List Value} {vs : List V} (F : FnG X.prog X.w X.K X.mg X.base k f fd ps sp) (hg : X.A.guards = some []) (hr : Room k X.A) (hb : Binds X.K fd ps [])
    (I : Inv X pins σ H s) (r : Vals vs us) (h : sp vs H Q E0) : wpAny (model X.prog X.w) X.A (call (.ref f) us) (EP X pins σ Q) X.xe s := by
  have hl : us.length = ps.length := r.length.symm.trans (F.many _ _ _ _ h)
  have hbb := hb s us I.kIn (by rw [List.append_nil]; exact hl)
  rw [List.append_nil] at hbb
  refine wpAny_call (codeAny_mono (F.goes X.A X.stack s H ⟨us, []⟩ us vs Q E0 hg hr I.env0 hbb r h) fun res s' hq => ?_)
  match res, hq with
  | .ok (.ret u), hq => exact I.after hq
  | .error e, hq => exact (show False from hq).elim
theorem pe_g (c : Kg X.prog X.w X.K X.mg X.base k x sp) (hgd : X.A.guards = some []) (hr : Room j X.A) (hk : k ≤ j) (hg : Gl X x) (ha : PA X (e :: es) t)
    (hdb : (x == ("__debug__" : Str)) = false := by decide) (he : starEach (e :: es) X.env = (false, eval e X.env) :: starEach es X.env := by rfl) (hpl : (backTo pos (starEach es X.env)).any (·.1) = false := by rfl) :
    PE X (.Call (.Name x p) (e :: es) [] pos) (tKal sp t) := by
  obtain ⟨f, fd, ps, F, hm, kp, b⟩ := c.ex
  constructor
  intro pins s σ H Q I h
  refine wpAny_Call_Name_kw (ld_glob I hg hm ?_ hdb)
  refine PySem.W.callWith_K (h₀ := X.base) I.ok.mod.kin kp (thn (ha.run pos pins s σ H _ I h) fun us s1 ⟨vs, H1, I1, r, q⟩ => ⟨I1.kIn, ?_⟩) he hpl
  exact run_g F hgd (hr.mono hk) b I1 r q
theorem pe_k (c : Kl X.prog X.w X.K X.mg X.base k x sp) (hr : Room j X.A) (hk : k ≤ j) (hg : Gl X x) (ha : PA X (e :: es) t)
    (hdb : (x == ("__debug__" : Str)) = false := by decide) (he : starEach (e :: es) X.env = (false, eval e X.env) :: starEach es X.env := by rfl) (hpl : (backTo pos (starEach es X.env)).any (·.1) = false := by rfl) :
    PE X (.Call (.Name x p) (e :: es) [] pos) (tKal sp t) := by
  obtain ⟨f, fd, ps, F, hm, kp, b⟩ := c.ex
  have h := pe_call (sp := sp) (E := E0) (dvs := []) F (hr.mono hk) hg hm kp b .nil pass0 ha hdb he hpl (pos := pos) (p := p)
  constructor
  intro pins s σ H Q I q
  refine h.run pins s σ H Q I ?_
  have e2 : tCall sp [] E0 t = tKal sp t := by
    funext σ H Q
    show t σ H (fun vs H1 => sp (vs ++ []) H1 Q E0) = t σ H (fun vs H1 => sp vs H1 Q E0)
    congr 1
    funext vs H1
    rw [List.append_nil]
  rw [e2]
  exact q
end
/-! ### repr of plain data -/
mutual
/-- at most so many signs -/
def wt : PyData → Nat
  | .none | .bool _ => 5
  | .int _ => 1921
  | .str x => 10 * x.length + 2
  | .list xs | .tuple xs => wtAll xs + 3
  | .dict _ => 0
def wtAll : List PyData → Nat
  | [] => 0
  | x :: xs => wt x + 2 + wtAll xs
end
mutual
/-- data that can be shown: its ints below 1920 bits -/
def okD : PyData → Bool
  | .none | .bool _ => true
  | .int i => decide (i.natAbs.log2 < 1920)
  | .str x => x.cps.toList.all fun c => decide (c < 16 ^ 8)
  | .list xs | .tuple xs => okAll xs
  | .dict _ => false
def okAll : List PyData → Bool
  | [] => true
  | x :: xs => okD x && okAll xs
end
theorem one_br : (("[" : Str)).length = 1 := rfl
theorem one_br2 : (("]" : Str)).length = 1 := rfl
theorem one_pa : (("(" : Str)).length = 1 := rfl
theorem tup_wt (ts : List Str) : (tupleText ts).length ≤ piled ts + 3 := by
  have e3 : (((if ts.length == 1 then ",)" else ")" : String) : Str)).length ≤ 2 := by split <;> decide +kernel
  unfold tupleText
  rw [strLen_append, strLen_append, one_pa]
  cases ts with
  | nil =>
    have : (Str.join ", " []).length = 0 := by decide +kernel
    omega
  | cons x r =>
    have := join_length_add (x :: r) (List.cons_ne_nil _ _)
    omega
theorem sum_piled : ∀ ts : List Str, (ts.map (·.length)).sum + 2 * ts.length = piled ts
  | [] => rfl
  | t :: ts => by
    have ih := sum_piled ts
    rw [piled_cons, ← ih, List.map_cons, List.sum_cons, List.length_cons]
    omega
theorem lst_wt (ts : List Str) : (listText ts).length ≤ piled ts + 3 := by
  have h := textFrom_len_le ts 0 "["
  have h2 := sum_piled ts
  unfold listText
  rw [strLen_append, one_br2]
  rw [one_br] at h
  omega
mutual
theorem shown_wt : ∀ d : PyData, okD d = true → d.shown.length ≤ wt d ∧ d.showable = true ∧ d.hasDict = false
  | .none, _ => by
    refine ⟨?_, rfl, rfl⟩
    show (("None" : Str)).length ≤ 5
    decide +kernel
  | .bool b, _ => by
    refine ⟨?_, rfl, rfl⟩
    cases b <;> (show _ ≤ 5; decide +kernel)
  | .int i, h => by
    have h1 : i.natAbs.log2 < 1920 := of_decide_eq_true (by simpa only [okD] using h)
    refine ⟨?_, by simpa only [PyData.showable] using decide_eq_true h1, rfl⟩
    have e := int_text_length_le (k := 1920) (by decide) h1
    show (Str.ofString (toString i)).length ≤ 1921
    rw [PySem.ofString_length]
    exact e
  | .str x, h => by
    refine ⟨?_, rfl, rfl⟩
    have h1 : ∀ c ∈ x.cps.toList, c < 16 ^ 8 := fun c hc => of_decide_eq_true (List.all_eq_true.mp (by simpa only [okD] using h) c hc)
    exact StrLaws.reprText_len x h1
  | .list xs, h => by
    obtain ⟨h1, h2, h3⟩ := shown_wtAll xs (by simpa only [okD] using h)
    refine ⟨?_, by simpa only [PyData.showable] using h2, by simpa only [PyData.hasDict] using h3⟩
    simp only [PyData.shown, wt]
    exact Nat.le_trans (lst_wt _) (Nat.add_le_add_right h1 3)
  | .tuple xs, h => by
    obtain ⟨h1, h2, h3⟩ := shown_wtAll xs (by simpa only [okD] using h)
    refine ⟨?_, by simpa only [PyData.showable] using h2, by simpa only [PyData.hasDict] using h3⟩
    simp only [PyData.shown, wt]
    exact Nat.le_trans (tup_wt _) (Nat.add_le_add_right h1 3)
  | .dict _, h => by simp only [okD, Bool.false_eq_true] at h
theorem shown_wtAll : ∀ xs : List PyData, okAll xs = true → piled (PyData.shownAll xs) ≤ wtAll xs ∧ PyData.showableAll xs = true ∧ PyData.hasDictAll xs = false
  | [], _ => ⟨Nat.le_refl _, rfl, rfl⟩
  | x :: xs, h => by
    have h0 : (okD x && okAll xs) = true := by simpa only [okAll] using h
    rw [Bool.and_eq_true] at h0
    obtain ⟨a1, a2, a3⟩ := shown_wt x h0.1
    obtain ⟨b1, b2, b3⟩ := shown_wtAll xs h0.2
    refine ⟨?_, by simp only [PyData.showableAll, a2, b2, Bool.and_self], by simp only [PyData.hasDictAll, a3, b3, Bool.or_self]⟩
    simp only [PyData.shownAll, wtAll]
    rw [piled_cons]
    omega
end
/-- the text of data -/
def rRepr (K : PySem.W.Frag) : List V → Hp → VK → Prop := fun xs H Q => ∃ x d, xs = [x] ∧ Dp K H x d ∧ okD d = true ∧ d.depth ≤ 40 ∧ wt d ≤ 1000000 ∧ Q (.str d.shown) H
section
variable {X : Cx}
theorem call_reprD (hg : X.A.guards = some []) (hu : X.A.units + 64 < cLine) : CallR X (.builtin "repr") (rRepr X.K) := by
  intro pins s σ H xs us Q I r h
  obtain ⟨x, d, rfl, hd, h0, h3, hw, q⟩ := h
  obtain ⟨hz, h1, h2⟩ := shown_wt d h0
  have h4 : d.shown.length ≤ sizeLine := Nat.le_trans hz (Nat.le_trans hw (by decide))
  obtain ⟨u, rfl, hx⟩ := vals1 r
  obtain ⟨as, rd⟩ := Dp.reads I d x u hd hx
  cases hd with
  | non =>
    obtain rfl : u = Value.none := hx
    exact PySem.P.repr_of_none ⟨.str _, H, I.tok _, ⟨_, rfl⟩, q⟩
  | bl b =>
    obtain rfl : u = Value.bool b := hx
    exact PySem.P.repr_of_bool ⟨.str _, H, I.tok _, ⟨_, rfl⟩, q⟩
  | int i =>
    obtain ⟨t, rfl⟩ := hx
    exact PySem.P.repr_of_int (of_decide_eq_true h1) ⟨.str _, H, I.tok _, ⟨_, rfl⟩, q⟩
  | str z =>
    obtain ⟨t, rfl⟩ := hx
    exact PySem.P.repr_of_str ⟨.str _, H, I.tok _, ⟨_, rfl⟩, q⟩ h4
  | lst hs ha =>
    obtain rfl : u = Value.ref _ := hx
    refine repr_of_reads' rd h1 (PyData.noDict_hsm h2) hg (by omega) (fun _ _ z => z) (fun h' u tk hk => ?_) h4
    exact ⟨.str _, H, I.kept (t' := tk) hk, ⟨_, rfl⟩, q⟩
  | tup hs ha =>
    obtain rfl : u = Value.ref _ := hx
    refine repr_of_reads' rd h1 (PyData.noDict_hsm h2) hg (by omega) (fun _ _ z => z) (fun h' u tk hk => ?_) h4
    exact ⟨.str _, H, I.kept (t' := tk) hk, ⟨_, rfl⟩, q⟩
end
/-! ### the law's end -/
section
variable {P : Program} {w : World} {K : PySem.W.Frag} {mg mb : Str → Option Value} {k : Nat} {fa a : Addr} {fd : FuncData} {x : Str} {sp : Sp} {s1 : Shared} {vs : List Value} {ns : List Int}
/-- from a heap H in which at most the script is tracked -/
theorem law_from {H : Hp} (KX : K.In s1.heap) (hns : s1.heap.Ns mainGlobals mg) (hb : s1.heap.Ns builtinsNs mb) (hbb : ∀ x : Str, x ≠ "__name__" → mb x = bootBuiltins x) (hlim : s1.heap.NoLimit) (hg : s1.gens = #[])
    (ha : s1.heap.get? a = some { cls := .type "list", data := .seq vs.toArray }) (hr : Room k callerA) (F : ∀ base : Heap, K.In base → base.Ns mainGlobals mg → FnG P w K mg base k fa fd [x] sp)
    (hbind : ∀ (s : Shared) (u : Value), BindsTo s fd ⟨[u], []⟩ [(x, u)]) (hO : Only H) (hok : HOk P w H s1.heap) (hA : ∀ b, H b ≠ none → b = a) (hK : H a ≠ none → K.lookup a = none)
    (hsp : sp [.ref a] H (fun v _ => v = .bl true) fun _ _ _ => False) :
    codeAny (model P w) callerA (.call (.ref fa) ⟨[.ref a], []⟩) (fun r s' => r = .ok (.ret (.bool true)) ∧ OldK s1.heap s'.heap ∧ s'.os = s1.os ∧ AllBare s'.gens) s1 := by
  have untr : ∀ {b : Addr} {o : Obj} {es : Array DictEntry} {ep : Nat}, s1.heap.get? b = some o → o.data = .dict es ep → H b = none := by
    intro b o es ep e d
    cases q : H b with
    | none => rfl
    | some u =>
      obtain rfl : b = a := hA b (by rw [q]; exact Option.some_ne_none u)
      rw [ha] at e
      cases e
      exact absurd (show Data.seq vs.toArray _ = Data.dict es ep from d) (by intro z; cases z)
  have nsH : ∀ {b : Addr} {m : Str → Option Value}, s1.heap.Ns b m → (hidT s1.heap H).Ns b m := by
    rintro b m ⟨o, es, ep, e, d, r⟩
    exact ⟨o, es, ep, hidT_get e (untr e d), d, r⟩
  have inH : K.In (hidT s1.heap H) := by
    intro b o e
    refine hidT_get (KX b o e) ?_
    cases q : H b with
    | none => rfl
    | some u =>
      have hne : H b ≠ none := by rw [q]; exact Option.some_ne_none u
      obtain rfl : b = a := hA b hne
      rw [hK hne] at e
      cases e
  obtain ⟨mc, l1, l2⟩ := hlim
  have md : Mod K mg (hidT s1.heap H) := ⟨inH, nsH hns, ⟨mb, nsH hb, hbb⟩, ⟨mc, nsH l1, l2⟩⟩
  have e0 : Env0 P w K mg (hidT s1.heap H) callerA [] s1 H := by
    refine ⟨rfl, md, fun b o e => of_hidT e, Nat.le_of_eq (hidT_size _ _), trivial, ?_, hok, .of_eq hg⟩
    intro b hb
    cases (show b ∈ ([] : List Addr) from hb)
  have run := (F _ inH (nsH hns)).goes callerA [] s1 H ⟨[.ref a], []⟩ [.ref a] [.ref a] _ _ rfl hr e0 (hbind s1 (.ref a)) (.cons rfl .nil) hsp
  refine codeAny_mono run fun r s' h => ?_
  match r, h with
  | .error e, h => exact (show False from h).elim
  | .ok (.ret u), ⟨v, H', os, bare, un, hok', r', q⟩ =>
    obtain rfl : v = .bl true := q
    obtain rfl : u = Value.bool true := r'
    refine ⟨rfl, OldK.of_keep ?_, os, bare⟩
    intro b o e
    cases q : H b with
    | none => exact un.keep b o e q (fun z => by cases (show b ∈ ([] : List Addr) from z)) (fun z => by cases z)
    | some u =>
      rcases hO b with z | ⟨ob, xs, z⟩
      · rw [q] at z
        cases z
      · have k1 := (hok b _ z).1
        have k2 := (hok' b _ (un.frzs b ob _ z)).1
        rw [e] at k1
        cases k1
        exact k2
theorem law_g (KX : K.In s1.heap) (hns : s1.heap.Ns mainGlobals mg) (hb : s1.heap.Ns builtinsNs mb) (hbb : ∀ x : Str, x ≠ "__name__" → mb x = bootBuiltins x) (hlim : s1.heap.NoLimit) (hg : s1.gens = #[])
    (ha : s1.heap.get? a = some { cls := .type "list", data := .seq vs.toArray }) (hi : IntsAre vs ns) (hl : ns.length ≤ sizeLine) (hr : Room k callerA) (F : ∀ base : Heap, K.In base → base.Ns mainGlobals mg → FnG P w K mg base k fa fd [x] sp)
    (hbind : ∀ (s : Shared) (u : Value), BindsTo s fd ⟨[u], []⟩ [(x, u)]) (hsp : ∀ H : Hp, Only H → SqL K H a (ns.map V.int) → sp [.ref a] H (fun v _ => v = .bl true) fun _ _ _ => False) :
    codeAny (model P w) callerA (.call (.ref fa) ⟨[.ref a], []⟩) (fun r s' => r = .ok (.ret (.bool true)) ∧ OldK s1.heap s'.heap ∧ s'.os = s1.os ∧ AllBare s'.gens) s1 := by
  have rv := vals_ints hi
  have lv := hi.length
  cases hk : K.lookup a with
  | some o =>
    have e := KX a o hk
    rw [ha] at e
    cases e
    refine law_from (H := fun _ => none) KX hns hb hbb hlim hg ha hr F hbind (fun _ => Or.inl rfl) (fun b u z => ?_) (fun b z => absurd rfl z) (fun z => absurd rfl z) (hsp _ (fun _ => Or.inl rfl) (Or.inr ?_))
    · cases (show (none : Option HO) = some u from z)
    · exact ⟨_, vs.toArray, _, hk, rfl, rfl, rfl, by rw [List.size_toArray, lv]; exact hl, by simpa using rv⟩
  | none =>
    let ob : Obj := { cls := .type "list", data := .seq vs.toArray }
    have one : ∀ b, (if b = a then some (HO.frz ob (.lst (ns.map V.int))) else none) ≠ none → b = a := fun b z => by
      by_cases hb : b = a
      · exact hb
      · exact absurd (if_neg hb) z
    have only : Only (fun b => if b = a then some (HO.frz ob (.lst (ns.map V.int))) else none) := fun b => by
      by_cases hb : b = a
      · exact Or.inr ⟨_, _, if_pos hb⟩
      · exact Or.inl (if_neg hb)
    refine law_from (H := fun b => if b = a then some (HO.frz ob (.lst (ns.map V.int))) else none) KX hns hb hbb hlim hg ha hr F hbind only (fun b u z => ?_) one (fun _ => hk) (hsp _ only (Or.inl (Or.inr ⟨ob, if_pos rfl⟩)))
    by_cases hb : b = a
    · obtain rfl := Option.some.inj ((if_pos hb).symm.trans z)
      subst hb
      exact ⟨ha, by rw [List.length_map]; exact hl, vs, _, rv, ha⟩
    · cases (if_neg hb).symm.trans z
end
theorem walk_g {l : PySem.W.OpenLaw} {n k : Nat} {q : Program} {loose : List Str} {XP : (Str → Option Value) → Heap → Prop} {YP : World → Heap → Prop} {d : DefRec} {K : Params → PySem.W.Frag} {sp : PySem.W.Frag → Sp} {x : Str}
    (hn : l.most = some n) (hn2 : n ≤ sizeLine) (hdf : d.params.defaults = []) (hr : Room k callerA) (hY : ∀ (w : World) (h : Heap), YP w h → (K w.params).In h)
    (F : ∀ (w : World) (mg : Str → Option Value) (fa : Addr) (h : Heap), (K w.params).In h → h.Ns mainGlobals mg → mg d.name = some (.ref fa) → ∃ fd : FuncData, (∀ (s : Shared) (u : Value), BindsTo s fd ⟨[u], []⟩ [(x, u)]) ∧
        ∀ base : Heap, (K w.params).In base → base.Ns mainGlobals mg → FnG l.prog w (K w.params) mg base k fa fd [x] (sp (K w.params)))
    (hsp : ∀ (K : PySem.W.Frag) (H : Hp) (a : Addr) (ns : List Int), ns.length ≤ n → SqL K H a (ns.map V.int) → sp K [.ref a] H (fun v _ => v = .bl true) fun _ _ _ => False) :
    PySem.W.WalkO q loose XP YP l.row.toRowW d [] (fun f vs => PySem.call f vs) := by
  refine Att.attach_call hn hdf fun w s0 s1 mg mb fa o pm cd doc a vs ns G Y ho hd hcd hmg hobj hints hlen hg => ?_
  obtain ⟨fd, hb, hF⟩ := F w mg fa _ (hY w _ Y) G.T.g hmg
  exact law_g (hY w _ Y) G.T.g G.T.b G.T.builtins G.T.nolimit hg hobj hints (Nat.le_trans hlen hn2) hr hF hb fun H _ hS => hsp (K w.params) H a ns hlen hS
end Gd
set_option Elab.async false
set_option linter.all false
set_option maxRecDepth 100000
/-! Common words: sizes of ints, heaps that grow, defs of the text by their names. -/
namespace Gd
open PySem PySem.Spec PyProof.Rows L2
/-! ### sizes -/
def B (n : Nat) (x : Int) : Prop := x.natAbs < 2 ^ n
theorem B.up {m n : Nat} {x : Int} (h : B m x) (k : m ≤ n) : B n x := Nat.lt_of_lt_of_le h (Nat.pow_le_pow_right (by decide) k)
theorem B.add {m n : Nat} {x y : Int} (hx : B m x) (hy : B n y) : B (max m n + 1) (x + y) := by
  have h1 : x.natAbs < 2 ^ max m n := hx.up (Nat.le_max_left m n)
  have h2 : y.natAbs < 2 ^ max m n := hy.up (Nat.le_max_right m n)
  unfold B
  rw [Nat.pow_succ]
  omega
theorem B.neg {n : Nat} {x : Int} (hx : B n x) : B n (-x) := by
  unfold B at *
  omega
theorem B.sub {m n : Nat} {x y : Int} (hx : B m x) (hy : B n y) : B (max m n + 1) (x - y) := by
  rw [Int.sub_eq_add_neg]
  exact hx.add hy.neg
theorem B.mul {m n : Nat} {x y : Int} (hx : B m x) (hy : B n y) : B (m + n) (x * y) := wide_lt hx hy
theorem B.pow {m : Nat} {x : Int} (hx : B m x) : ∀ k : Nat, B (m * k + 1) (x ^ k)
  | 0 => by
    rw [Int.pow_zero]
    exact Nat.one_lt_two_pow (by omega)
  | k + 1 => by
    rw [Int.pow_succ]
    exact ((B.pow hx k).mul hx).up (by rw [Nat.mul_succ]; omega)
theorem B.lit {n : Nat} {x : Int} (h : x.natAbs < 2 ^ n) : B n x := h
theorem B.mulW {m n : Nat} {x y : Int} (hx : B m x) (hy : B n y) (h : m + n ≤ 900000) : CMulW x y :=
  wide_mul (hx.up (Nat.le_add_right m 1)) (hy.up (Nat.le_add_right n 1)) (by omega) (by omega) (by omega)
theorem B.mulL {n : Nat} {x y : Int} (hx : B n x) (h : n ≤ 64) : CMul x y := by
  have h1 := hx.up h
  unfold B at h1
  exact Or.inl ⟨by omega, by omega⟩
theorem B.mulR {n : Nat} {x y : Int} (hy : B n y) (h : n ≤ 64) : CMul x y := by
  have h1 := hy.up h
  unfold B at h1
  exact Or.inr ⟨by omega, by omega⟩
theorem B.log {n : Nat} {x : Int} (hx : B n x) (h : n ≤ 1900) : x.natAbs.log2 < 1920 := by
  have h1 : x.natAbs < 2 ^ 1901 := hx.up (by omega)
  exact PySem.Flt.log2_lt_of (by decide) (Nat.lt_of_lt_of_le h1 (Nat.pow_le_pow_right (by decide) (by decide)))
theorem B.between {n : Nat} {x : Int} (m : Int) (h0 : -m ≤ x) (h1 : x ≤ m) (h : m.natAbs < 2 ^ n) : B n x := by
  unfold B
  omega
theorem small {n : Nat} (h : n ≤ 1000) : n ≤ sizeLine := Nat.le_trans h (by decide)
/-! ### heaps -/
theorem Same.new {H : Hp} {p : Addr} {o : HO} (h : H p = none) : Same H (upd H p o) := fun b x e => by
  rw [upd_ne (ne_of_none e h)]
  exact e
theorem Same.put {H H1 : Hp} {p : Addr} {o : HO} (s : Same H H1) (h : H p = none) : Same H (upd H1 p o) := fun b x e => by
  rw [upd_ne (ne_of_none e h)]
  exact s b x e
theorem Same.rd {H H' : Hp} {a : Addr} {u : HO} (e : Same H H') (h : Rd H a u) : Rd H' a u := by
  rcases h with h | ⟨o, h⟩
  · exact Or.inl (e _ _ h)
  · exact Or.inr ⟨o, e _ _ h⟩
theorem Same.tup {K : PySem.W.Frag} {H H' : Hp} {a : Addr} {xs : List V} (e : Same H H') (h : SqT K H a xs) : SqT K H' a xs := by
  rcases h with h | h
  · exact Or.inl (Same.rd e h)
  · exact Or.inr h
theorem tup_of {K : PySem.W.Frag} {H : Hp} {a : Addr} {xs : List V} (h : H a = some (.tup xs)) : SqT K H a xs := Or.inl (Or.inl h)
theorem lst_of {K : PySem.W.Frag} {H : Hp} {a : Addr} {xs : List V} (h : H a = some (.lst xs)) : SqL K H a xs := Or.inl (Or.inl h)
/-- all but what stands at m is as it was -/
def But (m : Addr) (H H' : Hp) : Prop := ∀ b o, H b = some o → b ≠ m → H' b = some o
theorem But.refl (m : Addr) (H : Hp) : But m H H := fun _ _ e _ => e
theorem But.trans {m : Addr} {H H1 H2 : Hp} (a : But m H H1) (b : But m H1 H2) : But m H H2 := fun c o e n => b c o (a c o e n) n
theorem But.of {m : Addr} {H H' : Hp} (a : Same H H') : But m H H' := fun c o e _ => a c o e
theorem But.upd {m : Addr} {H : Hp} {o : HO} : But m H (upd H m o) := fun c x e n => by
  rw [upd_ne n]
  exact e
/-- the same where m was not known -/
theorem But.same {m : Addr} {H H1 H2 : Hp} (s : Same H H1) (b : But m H1 H2) (h : H m = none) : Same H H2 := fun c o e => b c o (s c o e) (ne_of_none e h)
/-- the slots said anew -/
theorem sig {nx : L2.St → Hp → Prop} {σ : L2.St} {H : Hp} (σ' : L2.St) (e : σ = σ') (h : nx σ' H) : nx σ H := e ▸ h
theorem sigN {nx : L2.St → Hp → Prop} {i : Nat} {v : V} {σ : L2.St} {H : Hp} (σ' : L2.St) (e : σ.set i (some v) = σ') (h : nx σ' H) : gName i v σ H nx := by
  subst e
  exact h
/-- a number of the module -/
theorem pe_kon {X : Cx} {x : Str} {pos : Pos} {v : V} (hg : Gl X x) (h : ∃ u, X.mg x = some u ∧ RelV v u) (hd : (x == ("__debug__" : Str)) = false := by decide) : PE X (.Name x pos) (tC v) := by
  obtain ⟨u, hm, r⟩ := h
  exact pe_glob hg hm r hd
/-- int(n) of a number -/
theorem call_intI {X : Cx} : CallR X (.type "int") (fun xs H Q => ∃ i, xs = [.int i] ∧ Q (.int i) H) := fun pins s σ H xs us Q I r h => call_int1 pins s σ H xs us Q I r (Or.inl h)
/-! ### the state of the draws: four entries -/
def mk4 (L s : Int) (c : Addr) (n : Int) : List (Key × V) := [(Sum.inr "left", .int L), (Sum.inr "seed", .int s), (Sum.inr "cells", .ref c), (Sum.inr "spot", .int n)]
theorem kn12 : ¬ (("left" : Str) = "seed") := by decide +kernel
theorem kn13 : ¬ (("left" : Str) = "cells") := by decide +kernel
theorem kn14 : ¬ (("left" : Str) = "spot") := by decide +kernel
theorem kn23 : ¬ (("seed" : Str) = "cells") := by decide +kernel
theorem kn24 : ¬ (("seed" : Str) = "spot") := by decide +kernel
theorem kn34 : ¬ (("cells" : Str) = "spot") := by decide +kernel
theorem kn21 : ¬ (("seed" : Str) = "left") := by decide +kernel
theorem kn31 : ¬ (("cells" : Str) = "left") := by decide +kernel
theorem kn41 : ¬ (("spot" : Str) = "left") := by decide +kernel
theorem kn42 : ¬ (("spot" : Str) = "seed") := by decide +kernel
theorem kn43 : ¬ (("spot" : Str) = "cells") := by decide +kernel
theorem kn32 : ¬ (("cells" : Str) = "seed") := by decide +kernel
section
variable {L s n : Int} {c : Addr}
theorem m4_left : valV (mk4 L s c n) (Sum.inr "left") = some (.int L) := by simp [valV, mk4, List.find?_cons]
theorem m4_seed : valV (mk4 L s c n) (Sum.inr "seed") = some (.int s) := by simp [valV, mk4, List.find?_cons, kn12]
theorem m4_cells : valV (mk4 L s c n) (Sum.inr "cells") = some (.ref c) := by simp [valV, mk4, List.find?_cons, kn13, kn23]
theorem m4_spot : valV (mk4 L s c n) (Sum.inr "spot") = some (.int n) := by simp [valV, mk4, List.find?_cons, kn14, kn24, kn34]
theorem m4_putL (y : Int) : putK (mk4 L s c n) (Sum.inr "left") (.int y) = mk4 y s c n := by simp [putK, mk4, kn21, kn31, kn41]
theorem m4_merge : mergeK [] (mk4 L s c n) = mk4 L s c n := by simp [mergeK, putK, mk4, List.foldl, kn12, kn13, kn14, kn23, kn24, kn34]
theorem m4_putS (y : Int) : putK (mk4 L s c n) (Sum.inr "spot") (.int y) = mk4 L s c y := by simp [putK, mk4, kn14, kn24, kn34]
end
/-- the state stands at m, with at most n draws out of the cells behind it -/
def MAt (H : Hp) (m c : Addr) (n : Nat) : Prop := ∃ (L s : Int) (cs : List Int) (k : Nat), H m = some (.dK (mk4 L s c (k : Int))) ∧ k ≤ n ∧ H c = some (.lst (cs.map V.int)) ∧ 0 < cs.length
theorem MAt.up {H : Hp} {m cl : Addr} {n n' : Nat} (h : MAt H m cl n) (k : n ≤ n') : MAt H m cl n' := by
  obtain ⟨L, s, cs, j, h1, h2, h3, h4⟩ := h
  exact ⟨L, s, cs, j, h1, Nat.le_trans h2 k, h3, h4⟩
theorem MAt.same {H H' : Hp} {m cl : Addr} {n : Nat} (h : MAt H m cl n) (e : Same H H') : MAt H' m cl n := by
  obtain ⟨L, s, cs, j, h1, h2, h3, h4⟩ := h
  exact ⟨L, s, cs, j, e _ _ h1, h2, e _ _ h3, h4⟩
theorem MAt.some {H : Hp} {m cl : Addr} {n : Nat} (h : MAt H m cl n) : ∃ kvs, H m = some (.dK kvs) := by
  obtain ⟨L, s, cs, j, h1, _⟩ := h
  exact ⟨_, h1⟩
theorem MAt.ne {H : Hp} {m cl p : Addr} {n : Nat} (h : MAt H m cl n) (e : H p = none) : m ≠ p ∧ cl ≠ p := by
  obtain ⟨L, s, cs, j, h1, h2, h3, h4⟩ := h
  exact ⟨ne_of_none h1 e, ne_of_none h3 e⟩
theorem MAt.put {H : Hp} {m cl p : Addr} {n : Nat} {o : HO} (h : MAt H m cl n) (e : m ≠ p ∧ cl ≠ p) : MAt (upd H p o) m cl n := by
  obtain ⟨L, s, cs, j, h1, h2, h3, h4⟩ := h
  refine ⟨L, s, cs, j, ?_, h2, ?_, h4⟩
  · rw [upd_ne e.1]
    exact h1
  · rw [upd_ne e.2]
    exact h3
/-- what the draws leave: fresh stays fresh -/
theorem But.free {m p cl : Addr} {H H' : Hp} {n : Nat} (b : But m H H') (h : MAt H' m cl n) (e : H' p = none) : H p = none := by
  obtain ⟨kvs, hm⟩ := h.some
  cases q : H p with
  | none => rfl
  | some o =>
    by_cases hp : p = m
    · subst hp
      rw [hm] at e
      cases e
    · rw [b p o q hp] at e
      cases e
theorem But.tup {m p cl : Addr} {H H' : Hp} {n : Nat} {xs : List V} (b : But m H H') (h : MAt H m cl n) (e : H p = some (.tup xs)) : H' p = some (.tup xs) := by
  obtain ⟨kvs, hm⟩ := h.some
  exact b p _ e (ne_of e hm (by intro z; cases z))
theorem But.lst {m p cl : Addr} {H H' : Hp} {n : Nat} {xs : List V} (b : But m H H') (h : MAt H m cl n) (e : H p = some (.lst xs)) : H' p = some (.lst xs) := by
  obtain ⟨kvs, hm⟩ := h.some
  exact b p _ e (ne_of e hm (by intro z; cases z))
theorem But.seqL {K : PySem.W.Frag} {m p cl : Addr} {H H' : Hp} {n : Nat} {xs : List V} (b : But m H H') (h : MAt H m cl n) (e : SqL K H p xs) : SqL K H' p xs := by
  obtain ⟨kvs, hm⟩ := h.some
  rcases e with (e | ⟨o, e⟩) | e
  · exact Or.inl (Or.inl (b p _ e (ne_of e hm (by intro z; cases z))))
  · exact Or.inl (Or.inr ⟨o, b p _ e (ne_of e hm (by intro z; cases z))⟩)
  · exact Or.inr e
theorem But.seqT {K : PySem.W.Frag} {m p cl : Addr} {H H' : Hp} {n : Nat} {xs : List V} (b : But m H H') (h : MAt H m cl n) (e : SqT K H p xs) : SqT K H' p xs := by
  obtain ⟨kvs, hm⟩ := h.some
  rcases e with (e | ⟨o, e⟩) | e
  · exact Or.inl (Or.inl (b p _ e (ne_of e hm (by intro z; cases z))))
  · exact Or.inl (Or.inr ⟨o, b p _ e (ne_of e hm (by intro z; cases z))⟩)
  · exact Or.inr e
/-! ### tuples -/
theorem catA_any {K : PySem.W.Frag} {H : Hp} {Q : VK} {a b : Addr} {xs ys : List V} (ha : SqT K H a xs) (hb : SqT K H b ys) (hl : xs.length + ys.length ≤ 1000) (k : ∀ p H', Same H H' → SqT K H' p (xs ++ ys) → Q (.ref p) H') : rCatA K (.ref a) (.ref b) H Q := by
  refine ⟨a, b, xs, ys, rfl, rfl, ha, hb, small hl, fun e => ?_, fun _ e => ?_, fun _ _ p hp => k p _ (Same.new hp) (tup_of upd_same)⟩
  · subst e
    exact k b H (Same.refl H) hb
  · subst e
    exact k a H (Same.refl H) (by rw [List.append_nil]; exact ha)
theorem slA_any {K : PySem.W.Frag} {H : Hp} {Q : VK} {a : Addr} {xs : List V} {lo hi : Option Int} (ha : SqT K H a xs) (k : ∀ p H', Same H H' → SqT K H' p (cutV xs lo hi) → Q (.ref p) H') : rSlA K (.ref a) lo hi H Q := by
  refine ⟨a, xs, rfl, ha, fun e => ?_, fun _ p hp => k p _ (Same.new hp) (tup_of upd_same)⟩
  refine k a H (Same.refl H) ?_
  have e2 : cutV xs lo hi = xs := by
    unfold cutV
    rw [e.1, e.2, List.drop_zero, Nat.sub_zero, List.take_length]
  rw [e2]
  exact ha
/-! ### defs by their names -/
structure Df (K : PySem.W.Frag) (mg : Str → Option Value) (x : Str) (st : Stmt) (ps : List Str) : Prop where
  ex : ∃ (f : Addr) (fd : FuncData), Fun K x x st f fd ∧ mg x = some (.ref f) ∧ Binds K fd ps []
section
variable {P : Program} {w : World} {K : PySem.W.Frag} {mg : Str → Option Value} {base : Heap} {x : Str} {st : Stmt} {N ps : List Str} {k : Nat} {sp : Sp}
theorem Kl.by_body (D : Df K mg x st ps) (S : FnScope N ps (defScope st)) (len : ∀ vs H Q E, sp vs H Q E → vs.length = ps.length)
    (hb : ∀ (f : Addr) (cdv : Value) (A : Around) (outer : List Env) (s : Shared) (H : Hp) (vs : List V) (Q : VK) (E : XK), Room k (A.deeper (envOfC x (defScope st) s.heap.objs.size f cdv)) → sp vs H Q E →
      ∃ t, PSs (cxOf CX0 P w K mg base N x (defScope st) f cdv A outer s H E).nox (defBody st) t ∧ t { nx := fun _ H' => Q .non H', rt := Q } (start N vs) H) : Kl P w K mg base (k + 1) x sp := by
  obtain ⟨f, fd, F, hm, b⟩ := D.ex
  exact ⟨f, fd, ps, F.ok S len (hb f), hm, F.kp, b⟩
theorem Kg.by_body (D : Df K mg x st ps) (S : FnScope N ps (defScope st)) (len : ∀ vs H Q E, sp vs H Q E → vs.length = ps.length)
    (hb : ∀ (f : Addr) (cdv : Value) (A : Around) (outer : List Env) (s : Shared) (H : Hp) (vs : List V) (Q : VK) (E : XK), A.guards = some [] → Room k (A.deeper (envOfC x (defScope st) s.heap.objs.size f cdv)) → sp vs H Q E →
      ∃ t, PSs (cxOf CX0 P w K mg base N x (defScope st) f cdv A outer s H E).nox (defBody st) t ∧ t { nx := fun _ H' => Q .non H', rt := Q } (start N vs) H) : Kg P w K mg base (k + 1) x sp := by
  obtain ⟨f, fd, F, hm, b⟩ := D.ex
  exact ⟨f, fd, ps, FnG.by_body F S len (hb f), hm, F.kp, b⟩
theorem df_mk {h : Heap} {f : Addr} {oc : Value} {od an : Option Addr} {osl : Array (Option Value)} {kV doc pm cdv ct : Value} (X : K.In h) (G : h.Ns mainGlobals mg) (a : PySem.W.nsIn K mainGlobals x = some (some (.ref f)))
    (l : K.lookup f = some ⟨oc, od, .func (PySem.W.fnOf x x (defArgs st) (defBody st) (defScope st) .none kV doc pm an cdv ct), osl⟩) (c : PySem.W.codeIn K cdv x = true) (kp : PySem.W.keepIn K (.ref f) = true)
    (hb : ∀ (kV doc pm : Value) (an : Option Addr) (cdv ct : Value) (us : List Value), us.length = ps.length → bindArgs (PySem.W.fnOf x x (defArgs st) (defBody st) (defScope st) .none kV doc pm an cdv ct) ⟨us, []⟩ = pure (ps.zip us)) : Df K mg x st ps :=
  ⟨f, _, fun_mk l c kp, PySem.W.mg_of X G a, (fun_mk l c kp).binds hb⟩
theorem law_fd {h : Heap} {fa f : Addr} {j : Nat} {oc : Value} {od an : Option Addr} {osl : Array (Option Value)} {kV doc pm cdv ct : Value} (X : K.In h) (G : h.Ns mainGlobals mg) (hfa : mg "law" = some (.ref fa)) (a : PySem.W.nsIn K mainGlobals "law" = some (some (.ref f)))
    (l : K.lookup f = some ⟨oc, od, .func (PySem.W.fnOf "law" "law" (defArgs st) (defBody st) (defScope st) .none kV doc pm an cdv ct), osl⟩) (c : PySem.W.codeIn K cdv "law" = true) (kp : PySem.W.keepIn K (.ref f) = true)
    (hb : ∀ (kV doc pm : Value) (an : Option Addr) (cdv ct : Value) (us : List Value), us.length = 1 → bindArgs (PySem.W.fnOf "law" "law" (defArgs st) (defBody st) (defScope st) .none kV doc pm an cdv ct) ⟨us, []⟩ = pure ((["script"] : List Str).zip us))
    (go : ∀ fd, Fun K "law" "law" st fa fd → ∀ base : Heap, FnG P w K mg base j fa fd ["script"] sp) :
    ∃ fd : FuncData, (∀ (s : Shared) (u : Value), BindsTo s fd ⟨[u], []⟩ [("script", u)]) ∧ ∀ base : Heap, K.In base → base.Ns mainGlobals mg → FnG P w K mg base j fa fd ["script"] sp := by
  have e := hfa.symm.trans (PySem.W.mg_of X G a)
  cases e
  exact ⟨_, fun s u => .of_eq (hb kV doc pm an cdv ct [u] rfl), fun base _ _ => go _ (fun_mk l c kp) base⟩
end
end Gd
set_option linter.all false
/-! fractions: plain Lean -/
namespace QM
/-- n / d in lowest terms -/
def sg (n d : Int) : Int := if d < 0 then -((Nat.gcd n.natAbs d.natAbs : Nat) : Int) else ((Nat.gcd n.natAbs d.natAbs : Nat) : Int)
theorem sg_ne {n d : Int} (h : d ≠ 0) : sg n d ≠ 0 := by
  have hp : 0 < Nat.gcd n.natAbs d.natAbs := Nat.gcd_pos_of_pos_right _ (by omega)
  unfold sg
  split <;> omega
theorem fdiv_neg' (a b : Int) : (-a).fdiv (-b) = a.fdiv b := by
  exact Int.neg_fdiv_neg a b
theorem fr_num {n d : Int} (h : d ≠ 0) : n.fdiv (sg n d) = (Rat.divInt n d).num := by
  rw [Rat.num_divInt]
  unfold sg
  have g0 : ((Int.gcd d n : Nat) : Int) = ((Nat.gcd n.natAbs d.natAbs : Nat) : Int) := by rw [Int.gcd_comm]; rfl
  split
  · rename_i e
    rw [Int.sign_eq_neg_one_of_neg e, g0, Int.neg_mul, Int.one_mul]
    have e1 : n.fdiv (-((Nat.gcd n.natAbs d.natAbs : Nat) : Int)) = (-n).fdiv ((Nat.gcd n.natAbs d.natAbs : Nat) : Int) := by
      rw [← fdiv_neg' n, Int.neg_neg]
    rw [e1, Int.fdiv_eq_ediv_of_nonneg _ (by omega)]
  · rename_i e
    rw [Int.sign_eq_one_of_pos (by omega), g0, Int.one_mul, Int.fdiv_eq_ediv_of_nonneg _ (by omega)]
theorem fr_den {n d : Int} (h : d ≠ 0) : d.fdiv (sg n d) = ((Rat.divInt n d).den : Int) := by
  rw [Rat.den_divInt, if_neg h]
  have g0 : Int.gcd d n = Nat.gcd n.natAbs d.natAbs := by rw [Int.gcd_comm]; rfl
  rw [g0]
  unfold sg
  split
  · rename_i e
    have e1 : d.fdiv (-((Nat.gcd n.natAbs d.natAbs : Nat) : Int)) = (-d).fdiv ((Nat.gcd n.natAbs d.natAbs : Nat) : Int) := by
      rw [← fdiv_neg' d, Int.neg_neg]
    rw [e1, Int.fdiv_eq_ediv_of_nonneg _ (by omega), Int.natCast_ediv]
    congr 1
    omega
  · rename_i e
    rw [Int.fdiv_eq_ediv_of_nonneg _ (by omega), Int.natCast_ediv]
    congr 1
    omega
theorem den_ne (a : Rat) : (a.den : Int) ≠ 0 := by
  have := a.den_nz
  omega
theorem denR (a : Rat) : ((a.den : Int) : Rat) ≠ 0 := by
  intro h
  exact den_ne a (by exact_mod_cast h)
theorem as_div (a : Rat) : a = (a.num : Rat) / ((a.den : Int) : Rat) := by
  rw [← Rat.divInt_eq_div, Rat.num_divInt_den]
theorem fr_add (a b : Rat) : Rat.divInt (a.num * b.den + b.num * a.den) (a.den * b.den) = a + b := by
  have ha := denR a
  have hb := denR b
  have ea := as_div a
  have eb := as_div b
  rw [Rat.divInt_eq_div, Rat.intCast_add, Rat.intCast_mul, Rat.intCast_mul, Rat.intCast_mul]
  grind
theorem fr_sub (a b : Rat) : Rat.divInt (a.num * b.den - b.num * a.den) (a.den * b.den) = a - b := by
  have ha := denR a
  have hb := denR b
  have ea := as_div a
  have eb := as_div b
  rw [Rat.divInt_eq_div, Rat.intCast_sub, Rat.intCast_mul, Rat.intCast_mul, Rat.intCast_mul]
  grind
theorem fr_mul (a b : Rat) : Rat.divInt (a.num * b.num) (a.den * b.den) = a * b := by
  have ha := denR a
  have hb := denR b
  have ea := as_div a
  have eb := as_div b
  rw [Rat.divInt_eq_div, Rat.intCast_mul, Rat.intCast_mul]
  grind
theorem num_ne {a : Rat} (h : a ≠ 0) : a.num ≠ 0 := fun e => h (Rat.num_eq_zero.mp e)
theorem fr_div (a b : Rat) (h : b ≠ 0) : Rat.divInt (a.num * b.den) (a.den * b.num) = a / b := by
  have ha := denR a
  have hb := denR b
  have ea := as_div a
  have eb := as_div b
  have hn : (b.num : Rat) ≠ 0 := fun e => num_ne h (by exact_mod_cast e)
  rw [Rat.divInt_eq_div, Rat.intCast_mul, Rat.intCast_mul]
  grind
theorem mul_ne {a b : Int} (h : a ≠ 0) (k : b ≠ 0) : a * b ≠ 0 := Int.mul_ne_zero h k
/-! sizes -/
def RB (n : Nat) (q : Rat) : Prop := q.num.natAbs < 2 ^ n ∧ (q.den : Int).natAbs < 2 ^ n
theorem RB.up {m n : Nat} {q : Rat} (h : RB m q) (k : m ≤ n) : RB n q := ⟨Nat.lt_of_lt_of_le h.1 (Nat.pow_le_pow_right (by decide) k), Nat.lt_of_lt_of_le h.2 (Nat.pow_le_pow_right (by decide) k)⟩
theorem dv_le {x g : Int} (h : g ≠ 0) (d : g ∣ x) : (x.fdiv g).natAbs ≤ x.natAbs := by
  obtain ⟨k, rfl⟩ := d
  rw [Int.mul_fdiv_cancel_left k h, Int.natAbs_mul]
  have h1 : 1 ≤ g.natAbs := by omega
  have h2 : 1 * k.natAbs ≤ g.natAbs * k.natAbs := Nat.mul_le_mul_right _ h1
  omega
theorem sg_dvd (n d : Int) : sg n d ∣ n := by
  have h : ((Nat.gcd n.natAbs d.natAbs : Nat) : Int) ∣ n := Int.ofNat_dvd_left.mpr (Nat.gcd_dvd_left _ _)
  unfold sg
  split
  · exact Int.neg_dvd.mpr h
  · exact h
theorem sg_dvd2 (n d : Int) : sg n d ∣ d := by
  have h : ((Nat.gcd n.natAbs d.natAbs : Nat) : Int) ∣ d := Int.ofNat_dvd_left.mpr (Nat.gcd_dvd_right _ _)
  unfold sg
  split
  · exact Int.neg_dvd.mpr h
  · exact h
theorem RB.of {m : Nat} {n d : Int} (h : d ≠ 0) (hn : n.natAbs < 2 ^ m) (hd : d.natAbs < 2 ^ m) : RB m (Rat.divInt n d) := by
  unfold RB
  rw [← fr_num h, ← fr_den (n := n) h]
  exact ⟨Nat.lt_of_le_of_lt (dv_le (sg_ne h) (sg_dvd n d)) hn, Nat.lt_of_le_of_lt (dv_le (sg_ne h) (sg_dvd2 n d)) hd⟩
theorem pmul {m n a b : Nat} (ha : a < 2 ^ m) (hb : b < 2 ^ n) : a * b < 2 ^ (m + n) := by
  rw [Nat.pow_add]
  rcases Nat.eq_zero_or_pos b with h | h
  · subst h
    rw [Nat.mul_zero]
    exact Nat.mul_pos (Nat.two_pow_pos m) (Nat.two_pow_pos n)
  · exact Nat.mul_lt_mul_of_lt_of_le ha (Nat.le_of_lt hb) (Nat.two_pow_pos n)
theorem RB.add {m n : Nat} {a b : Rat} (ha : RB m a) (hb : RB n b) : RB (m + n + 1) (a + b) := by
  rw [← fr_add]
  have h1 := pmul ha.1 hb.2
  have h2 := pmul ha.2 hb.1
  have h3 := pmul ha.2 hb.2
  refine RB.of (mul_ne (den_ne a) (den_ne b)) ?_ ?_
  · rw [Nat.pow_succ]
    have h4 : (a.num * ↑b.den + b.num * ↑a.den).natAbs ≤ (a.num * ↑b.den).natAbs + (b.num * ↑a.den).natAbs := Int.natAbs_add_le _ _
    rw [Int.natAbs_mul, Int.natAbs_mul, Nat.mul_comm b.num.natAbs] at h4
    omega
  · rw [Nat.pow_succ, Int.natAbs_mul]
    omega
theorem RB.neg {m : Nat} {a : Rat} (ha : RB m a) : RB m (-a) := by
  unfold RB at *
  rw [Rat.neg_num, Rat.neg_den, Int.natAbs_neg]
  exact ha
theorem RB.sub {m n : Nat} {a b : Rat} (ha : RB m a) (hb : RB n b) : RB (m + n + 1) (a - b) := by
  rw [Rat.sub_eq_add_neg]
  exact ha.add hb.neg
theorem RB.mul {m n : Nat} {a b : Rat} (ha : RB m a) (hb : RB n b) : RB (m + n) (a * b) := by
  rw [← fr_mul]
  refine RB.of (mul_ne (den_ne a) (den_ne b)) ?_ ?_
  · rw [Int.natAbs_mul]
    exact pmul ha.1 hb.1
  · rw [Int.natAbs_mul]
    exact pmul ha.2 hb.2
theorem RB.div {m n : Nat} {a b : Rat} (h : b ≠ 0) (ha : RB m a) (hb : RB n b) : RB (m + n) (a / b) := by
  rw [← fr_div a b h]
  refine RB.of (mul_ne (den_ne a) (num_ne h)) ?_ ?_
  · rw [Int.natAbs_mul]
    exact pmul ha.1 hb.2
  · rw [Int.natAbs_mul]
    exact pmul ha.2 hb.1
theorem RB.int {m : Nat} {n : Int} (h : n.natAbs < 2 ^ m) (k : 1 ≤ m) : RB m (n : Rat) := by
  unfold RB
  rw [Rat.num_intCast, Rat.den_intCast]
  exact ⟨h, Nat.lt_of_lt_of_le (by decide : 1 < 2 ^ 1) (Nat.pow_le_pow_right (by decide) k)⟩
theorem RB.pow {m : Nat} {a : Rat} (ha : RB m a) : ∀ k : Nat, RB (m * k + 1) (a ^ k)
  | 0 => by
    rw [Rat.pow_zero]
    exact RB.int (n := 1) (by rw [Nat.mul_zero]; decide) (by omega)
  | k + 1 => by
    rw [Rat.pow_succ]
    exact (RB.mul (RB.pow ha k) ha).up (by rw [Nat.mul_succ]; omega)
/-! powers -/
theorem npow (a : Rat) (k : Nat) : (a ^ k).num = a.num ^ k := Rat.num_pow a k
theorem dpow (a : Rat) (k : Nat) : (a ^ k).den = a.den ^ k := Rat.den_pow a k
theorem le_npow (a : Nat) {k : Nat} (h : 1 ≤ k) : a ≤ a ^ k := by
  rcases Nat.eq_zero_or_pos a with e | e
  · omega
  · calc a = a ^ 1 := (Nat.pow_one a).symm
      _ ≤ a ^ k := Nat.pow_le_pow_right e h
theorem RB.root {m k : Nat} {a : Rat} (h : 1 ≤ k) (ha : RB m (a ^ k)) : RB m a := by
  unfold RB at *
  rw [npow, dpow, Int.natAbs_pow] at ha
  refine ⟨Nat.lt_of_le_of_lt (le_npow _ h) ha.1, ?_⟩
  have e : ((a.den ^ k : Nat) : Int).natAbs = a.den ^ k := Int.natAbs_natCast _
  rw [e] at ha
  rw [Int.natAbs_natCast]
  exact Nat.lt_of_le_of_lt (le_npow _ h) ha.2
theorem num_pos {a : Rat} (h : 0 < a) : 0 < a.num := by
  have h1 : 0 ≤ a.num := Rat.num_nonneg.mpr (Rat.le_of_lt h)
  have h2 : a.num ≠ 0 := num_ne (fun e => by rw [e] at h; exact absurd h (by decide))
  omega
end QM
set_option Elab.async false
set_option linter.all false
set_option maxRecDepth 100000
/-! fractions as pairs of ints; promises of the sums -/
namespace Gd
open PySem PySem.Spec PyProof.Rows L2 QM
/-- // by any divisor but 0, below 2 ^ 9000 -/
def CDivAny (_ j : Int) : Prop := j ≠ 0 ∧ j.natAbs.log2 < 9000
theorem op_fdivAny {X : Cx} : OpR X (binaryOp .FloorDiv) (rI CDivAny fun i j => .int (i.fdiv j)) := opI fun _ _ _ _ _ _ _ hc q => floordiv_int hc.1 q (.inl (PyProof.noPylong_of_log2 hc.2))
theorem B.log9 {n : Nat} {x : Int} (hx : B n x) (h : n ≤ 8900) : x.natAbs.log2 < 9000 := by
  have h1 : x.natAbs < 2 ^ 8901 := hx.up (by omega)
  exact PySem.Flt.log2_lt_of (by decide) (Nat.lt_of_lt_of_le h1 (Nat.pow_le_pow_right (by decide) (by decide)))
theorem div_any {m : Nat} {i j : Int} (h : j ≠ 0) (hb : B m j) (hm : m ≤ 8900) : CDivAny i j := ⟨h, hb.log9 hm⟩
theorem gcd_B {m : Nat} {n d : Int} (h : d ≠ 0) (hb : B m d) : B m ((Nat.gcd n.natAbs d.natAbs : Nat) : Int) := by
  unfold B at *
  have h1 : Nat.gcd n.natAbs d.natAbs ≤ d.natAbs := Nat.gcd_le_right _ (by omega)
  omega
theorem sg_B {m : Nat} {n d : Int} (h : d ≠ 0) (hb : B m d) : B m (sg n d) := by
  unfold sg
  split
  · exact (gcd_B h hb).neg
  · exact gcd_B h hb
/-- a fraction's pair -/
def fq (q : Rat) : List V := [.int q.num, .int (q.den : Int)]
theorem fq_div {n d : Int} (h : d ≠ 0) : [V.int (n.fdiv (sg n d)), V.int (d.fdiv (sg n d))] = fq (Rat.divInt n d) := by
  unfold fq
  rw [fr_num h, fr_den h]
theorem fq_int (n : Int) : fq (n : Rat) = [.int n, .int 1] := by
  unfold fq
  rw [Rat.num_intCast, Rat.den_intCast]
  rfl
theorem fq_inj {a b : Rat} (h : fq a = fq b) : a = b := by
  unfold fq at h
  simp only [List.cons.injEq, V.int.injEq, and_true] at h
  exact Rat.ext h.1 (by omega)
def dq (q : Rat) : PyData := .tuple [.int q.num, .int (q.den : Int)]
theorem dp_q {K : PySem.W.Frag} {H : Hp} {p : Addr} {q : Rat} (h : SqT K H p (fq q)) : Dp K H (.ref p) (dq q) := .tup h (.cons (.int _) (.cons (.int _) .nil))
theorem dq_inj {a b : Rat} : dq a = dq b ↔ a = b := by
  constructor
  · intro h
    unfold dq at h
    simp only [PyData.tuple.injEq, List.cons.injEq, PyData.int.injEq, and_true] at h
    exact Rat.ext h.1 (by omega)
  · rintro rfl
    rfl
theorem _root_.QM.RB.n {m : Nat} {q : Rat} (h : RB m q) : B m q.num := h.1
theorem _root_.QM.RB.d {m : Nat} {q : Rat} (h : RB m q) : B m (q.den : Int) := h.2
theorem okq {m : Nat} {q : Rat} (h : RB m q) (k : m ≤ 1900) : okD (dq q) = true := by
  have h1 := B.log (RB.n h) k
  have h2 := B.log (RB.d h) k
  unfold dq
  rw [okD, okAll, okAll, okAll, okD, okD]
  rw [decide_eq_true h1, decide_eq_true h2]
  rfl
def spCut (K : PySem.W.Frag) : Sp := fun vs H Q _ => ∃ n d : Int, vs = [.int n, .int d] ∧ d ≠ 0 ∧ B 8200 n ∧ B 8200 d ∧ ∀ t, H t = none → Q (.ref t) (upd H t (.tup (fq (Rat.divInt n d))))
def spBin (ok : Rat → Rat → Prop) (op : Rat → Rat → Rat) (K : PySem.W.Frag) : Sp := fun vs H Q _ => ∃ (f g : Addr) (a b : Rat), vs = [.ref f, .ref g] ∧ SqT K H f (fq a) ∧ SqT K H g (fq b) ∧ RB 4000 a ∧ RB 4000 b ∧ ok a b ∧ ∀ t, H t = none → Q (.ref t) (upd H t (.tup (fq (op a b))))
/-- a list of fractions -/
def FrL (K : PySem.W.Frag) (H : Hp) (m : Nat) (ps : List (Addr × Rat)) : Prop := ∀ p ∈ ps, SqT K H p.1 (fq p.2) ∧ RB m p.2
def spSum (op : Rat → Rat → Rat) (e : Rat) (K : PySem.W.Frag) : Sp := fun vs H Q _ => ∃ (l : Addr) (ps : List (Addr × Rat)) (m : Nat), vs = [.ref l] ∧ SqL K H l (ps.map fun p => .ref p.1) ∧ FrL K H m ps ∧ ps.length * (m + 1) ≤ 3900 ∧ ∀ H' t, Same H H' → H t = none → H' t = some (.tup (fq (ps.foldl (fun x p => op x p.2) e))) → RB (ps.length * (m + 1) + 1) (ps.foldl (fun x p => op x p.2) e) → Q (.ref t) H'
/-- a list that is being made of the fractions of ints -/
def FrD (H : Hp) (D : Addr) (ns : List Int) (i : Nat) : Prop := ∃ L : List Addr, H D = some (.lst (L.map V.ref)) ∧ L.length = i ∧ ∀ (j : Nat) (p : Addr), L[j]? = some p → ∃ n : Int, ns[j]? = some n ∧ H p = some (.tup (fq (n : Rat)))
theorem FrD.new {H : Hp} {D : Addr} {ns : List Int} : FrD (upd H D (.lst [])) D ns 0 := ⟨[], upd_same, rfl, fun j p h => by simp at h⟩
theorem FrD.push {H : Hp} {D t : Addr} {ns : List Int} {i : Nat} {n : Int} (h : FrD H D ns i) (hi : ns[i]? = some n) (nt : H t = none) (hl : i < 1000) :
    ∃ acc, (upd H t (.tup (fq (n : Rat)))) D = some (.lst acc) ∧ acc.length < sizeLine ∧ FrD (upd (upd H t (.tup (fq (n : Rat)))) D (.lst (acc ++ [.ref t]))) D ns (i + 1) := by
  obtain ⟨L, h1, h2, h3⟩ := h
  have hDt : D ≠ t := ne_of_none h1 nt
  refine ⟨L.map V.ref, by rw [upd_ne hDt]; exact h1, by rw [List.length_map]; exact small1000 (by omega), L ++ [t], ?_, by rw [List.length_append, h2]; rfl, fun j p hj => ?_⟩
  · rw [upd_same, List.map_append]
    rfl
  · rcases Nat.lt_or_ge j L.length with z | z
    · rw [List.getElem?_append_left z] at hj
      obtain ⟨m, hm, hp⟩ := h3 j p hj
      refine ⟨m, hm, ?_⟩
      have hpD : p ≠ D := ne_of hp h1 (by intro z; cases z)
      rw [upd_ne hpD, upd_ne (ne_of_none hp nt)]
      exact hp
    · rw [List.getElem?_append_right z] at hj
      have e : j - L.length = 0 := by
        rcases Nat.eq_zero_or_pos (j - L.length) with q | q
        · exact q
        · rw [List.getElem?_eq_none (by simp; omega)] at hj
          cases hj
      rw [e] at hj
      obtain rfl := Option.some.inj hj
      have ej : j = i := by omega
      refine ⟨n, by rw [ej]; exact hi, ?_⟩
      rw [upd_ne (fun q => hDt q.symm), upd_same]
theorem FrD.five {H : Hp} {D : Addr} {a b c d e : Int} (h : FrD H D [a, b, c, d, e] 5) : ∃ p1 p2 p3 p4 p5, H D = some (.lst [.ref p1, .ref p2, .ref p3, .ref p4, .ref p5]) ∧ H p1 = some (.tup (fq (a : Rat))) ∧ H p2 = some (.tup (fq (b : Rat))) ∧ H p3 = some (.tup (fq (c : Rat))) ∧ H p4 = some (.tup (fq (d : Rat))) ∧ H p5 = some (.tup (fq (e : Rat))) := by
  obtain ⟨L, h1, h2, h3⟩ := h
  match L, h2 with
  | [p1, p2, p3, p4, p5], _ =>
    have g : ∀ (j : Nat) (p : Addr) (n : Int), [p1, p2, p3, p4, p5][j]? = some p → [a, b, c, d, e][j]? = some n → H p = some (.tup (fq (n : Rat))) := fun j p n x y => by
      obtain ⟨m, hm, hp⟩ := h3 j p x
      rw [y] at hm
      obtain rfl := Option.some.inj hm
      exact hp
    exact ⟨p1, p2, p3, p4, p5, h1, g 0 _ _ rfl rfl, g 1 _ _ rfl rfl, g 2 _ _ rfl rfl, g 3 _ _ rfl rfl, g 4 _ _ rfl rfl⟩
/-! what stands of fractions in the heap -/
def FrE (K : PySem.W.Frag) (H : Hp) (es : List (Addr × Rat × Nat)) : Prop := ∀ x ∈ es, SqT K H x.1 (fq x.2.1) ∧ RB x.2.2 x.2.1
section
variable {K : PySem.W.Frag} {H H' : Hp} {es : List (Addr × Rat × Nat)} {p r : Addr} {a b : Rat} {m n : Nat} {Q : VK} {Z : XK}
theorem FrE.nil : FrE K H [] := fun x h => by cases h
theorem FrE.same (h : FrE K H es) (s : Same H H') : FrE K H' es := fun x k => ⟨Same.tup s (h x k).1, (h x k).2⟩
theorem FrE.get (h : FrE K H es) (k : (p, a, m) ∈ es) : SqT K H p (fq a) := (h _ k).1
theorem FrE.rb (h : FrE K H es) (k : (p, a, m) ∈ es) : RB m a := (h _ k).2
theorem FrE.add (h : FrE K H es) (k : SqT K H p (fq a)) (b : RB m a) : FrE K H ((p, a, m) :: es) := fun x z => by
  rcases List.mem_cons.mp z with rfl | z
  · exact ⟨k, b⟩
  · exact h x z
theorem FrE.re (h : FrE K H ((p, a, m) :: es)) (e : a = b) (k : RB n b) : FrE K H ((p, b, n) :: es) := fun x z => by
  subst e
  rcases List.mem_cons.mp z with rfl | z
  · exact ⟨(h _ List.mem_cons_self).1, k⟩
  · exact h x (List.mem_cons_of_mem _ z)
theorem FrE.sub {fs : List (Addr × Rat × Nat)} (h : FrE K H es) (k : ∀ x ∈ fs, x ∈ es) : FrE K H fs := fun x z => h x (k x z)
theorem stepE (E : FrE K H es) {t : Addr} (n : H t = none) {c : Rat} {k : Nat} (hb : RB k c) : ∃ H', upd H t (.tup (fq c)) = H' ∧ Same H H' ∧ FrE K H' ((t, c, k) :: es) :=
  ⟨_, rfl, Same.new n, (E.same (Same.new n)).add (tup_of upd_same) hb⟩
theorem litE (E : FrE K H es) {t : Addr} (n : H t = none) {vs : List V} {c : Rat} {k : Nat} (e : vs = fq c) (hb : RB k c) : ∃ H', upd H t (.tup vs) = H' ∧ Same H H' ∧ FrE K H' ((t, c, k) :: es) := by
  subst e
  exact stepE E n hb
theorem FrL.nil {M : Nat} : FrL K H M [] := fun x h => by cases h
theorem FrL.cons {M : Nat} {ps : List (Addr × Rat)} (E : FrE K H es) (k : (p, a, m) ∈ es) (hm : m ≤ M) (h : FrL K H M ps) : FrL K H M ((p, a) :: ps) := fun x z => by
  rcases List.mem_cons.mp z with rfl | z
  · exact ⟨E.get k, (E.rb k).up hm⟩
  · exact h x z
end
mutual
theorem dp_same {K : PySem.W.Frag} {H H' : Hp} (s : Same H H') : ∀ (d : PyData) (v : V), Dp K H v d → Dp K H' v d
  | .none, _, h => by
    cases h
    exact .non
  | .bool _, _, h => by
    cases h
    exact .bl _
  | .int _, _, h => by
    cases h
    exact .int _
  | .str _, _, h => by
    cases h
    exact .str _
  | .list ds, _, h => by
    cases h with
    | lst h1 h2 => exact .lst (s.seq h1) (dp_sameAll s ds _ h2)
  | .tuple ds, _, h => by
    cases h with
    | tup h1 h2 => exact .tup (Same.tup s h1) (dp_sameAll s ds _ h2)
  | .dict _, _, h => by cases h
theorem dp_sameAll {K : PySem.W.Frag} {H H' : Hp} (s : Same H H') : ∀ (ds : List PyData) (vs : List V), DpAll K H vs ds → DpAll K H' vs ds
  | [], _, h => by
    cases h
    exact .nil
  | d :: ds, _, h => by
    cases h with
    | cons h1 h2 => exact .cons (dp_same s d _ h1) (dp_sameAll s ds _ h2)
end
/-- a list's cell is no tuple's -/
theorem tup_put {K : PySem.W.Frag} {H : Hp} {D p : Addr} {L xs : List V} {o : HO} (hD : H D = some (.lst L)) (e : SqT K H p xs) : SqT K (upd H D o) p xs := by
  rcases e with (e | ⟨z, e⟩) | e
  · refine Or.inl (Or.inl ?_)
    rw [upd_ne (ne_of e hD (by intro z; cases z))]
    exact e
  · refine Or.inl (Or.inr ⟨z, ?_⟩)
    rw [upd_ne (ne_of e hD (by intro z; cases z))]
    exact e
  · exact Or.inr e
mutual
def noL : PyData → Bool
  | .list _ => false
  | .tuple ds => noLAll ds
  | .dict _ => false
  | _ => true
def noLAll : List PyData → Bool
  | [] => true
  | d :: ds => noL d && noLAll ds
end
mutual
theorem dp_put {K : PySem.W.Frag} {H : Hp} {D : Addr} {L : List V} {o : HO} (hD : H D = some (.lst L)) : ∀ (d : PyData) (v : V), noL d = true → Dp K H v d → Dp K (upd H D o) v d
  | .none, _, _, h => by
    cases h
    exact .non
  | .bool _, _, _, h => by
    cases h
    exact .bl _
  | .int _, _, _, h => by
    cases h
    exact .int _
  | .str _, _, _, h => by
    cases h
    exact .str _
  | .list ds, _, n, h => by
    rw [noL] at n
    cases n
  | .tuple ds, _, n, h => by
    rw [noL] at n
    cases h with
    | tup h1 h2 => exact .tup (tup_put hD h1) (dp_putAll hD ds _ n h2)
  | .dict _, _, _, h => by cases h
theorem dp_putAll {K : PySem.W.Frag} {H : Hp} {D : Addr} {L : List V} {o : HO} (hD : H D = some (.lst L)) : ∀ (ds : List PyData) (vs : List V), noLAll ds = true → DpAll K H vs ds → DpAll K (upd H D o) vs ds
  | [], _, _, h => by
    cases h
    exact .nil
  | d :: ds, _, n, h => by
    rw [noLAll, Bool.and_eq_true] at n
    cases h with
    | cons h1 h2 => exact .cons (dp_put hD d _ n.1 h1) (dp_putAll hD ds _ n.2 h2)
end
end Gd
set_option linter.all false
/-! roots: plain Lean -/
namespace QM
theorem dvd_pow' (a : Nat) {k : Nat} (h : k ≠ 0) : a ∣ a ^ k := by
  obtain ⟨j, rfl⟩ := Nat.exists_eq_succ_of_ne_zero h
  rw [Nat.pow_succ]
  exact Nat.dvd_mul_left a _
theorem ipow_le {a b : Int} (ha : 0 ≤ a) (h : a ≤ b) (k : Nat) : a ^ k ≤ b ^ k := by
  have h1 : a.natAbs ^ k ≤ b.natAbs ^ k := Nat.pow_le_pow_left (by omega) k
  rw [← Int.natAbs_pow, ← Int.natAbs_pow] at h1
  have h2 : 0 ≤ a ^ k := Int.pow_nonneg ha
  have h3 : 0 ≤ b ^ k := Int.pow_nonneg (by omega)
  omega
theorem pow_inj {a b k : Nat} (h : k ≠ 0) (e : a ^ k = b ^ k) : a = b := by
  rcases Nat.lt_trichotomy a b with x | x | x
  · have := Nat.pow_lt_pow_left x h
    omega
  · exact x
  · have := Nat.pow_lt_pow_left x h
    omega
theorem ipow_inj {a b : Int} {k : Nat} (h : k ≠ 0) (ha : 0 ≤ a) (hb : 0 ≤ b) (e : a ^ k = b ^ k) : a = b := by
  have h1 : a.natAbs ^ k = b.natAbs ^ k := by rw [← Int.natAbs_pow, ← Int.natAbs_pow, e]
  have := pow_inj h h1
  omega
theorem qpow_inj {a b : Rat} {k : Nat} (h : k ≠ 0) (ha : 0 < a) (hb : 0 < b) (e : a ^ k = b ^ k) : a = b := by
  have h1 := num_pos ha
  have h2 := num_pos hb
  have e1 : a.num ^ k = b.num ^ k := by rw [← npow, ← npow, e]
  have e2 : a.den ^ k = b.den ^ k := by rw [← dpow, ← dpow, e]
  exact Rat.ext (ipow_inj h (by omega) (by omega) e1) (pow_inj h e2)
/-- the root of a fraction from those of its parts -/
theorem rootQ {k : Nat} (hk : k ≠ 0) {q : Rat} {s t : Int} (hs0 : 0 < s) (ht0 : 0 < t) (hs : s ^ k = q.num) (ht : t ^ k = (q.den : Int)) : ∃ r : Rat, 0 < r ∧ r ^ k = q ∧ r.num = s ∧ (r.den : Int) = t := by
  have e1 : s.natAbs ^ k = q.num.natAbs := by rw [← Int.natAbs_pow, hs]
  have e2 : t.natAbs ^ k = q.den := by
    have h : (t ^ k).natAbs = ((q.den : Int)).natAbs := by rw [ht]
    rw [Int.natAbs_pow, Int.natAbs_natCast] at h
    exact h
  have hc : Nat.Coprime s.natAbs t.natAbs := by
    have c : Nat.Coprime (s.natAbs ^ k) (t.natAbs ^ k) := by
      rw [e1, e2]
      exact q.reduced
    have d1 : s.natAbs ∣ s.natAbs ^ k := dvd_pow' _ hk
    have d2 : t.natAbs ∣ t.natAbs ^ k := dvd_pow' _ hk
    exact Nat.Coprime.coprime_dvd_left d1 (Nat.Coprime.coprime_dvd_right d2 c)
  have hz : t.natAbs ≠ 0 := by omega
  refine ⟨⟨s, t.natAbs, hz, hc⟩, ?_, ?_, rfl, by show ((t.natAbs : Nat) : Int) = t; omega⟩
  · have h1 : (0 : Rat) ≤ ⟨s, t.natAbs, hz, hc⟩ := Rat.num_nonneg.mp (by show 0 ≤ s; omega)
    have h2 : (⟨s, t.natAbs, hz, hc⟩ : Rat) ≠ 0 := fun e => by
      have h3 : s = 0 := congrArg Rat.num e
      omega
    exact Rat.lt_of_le_of_ne h1 (fun e => h2 e.symm)
  · refine Rat.ext ?_ ?_
    · rw [npow]
      exact hs
    · rw [dpow]
      exact e2
/-- Newton's step -/
theorem mono {r s : Int} (hr : 0 ≤ r) (hs : 0 ≤ s) (k : Nat) : r * s ^ k + s * r ^ k ≤ r * r ^ k + s * s ^ k := by
  have key : 0 ≤ (r ^ k - s ^ k) * (r - s) := by
    rcases Int.le_total r s with h | h
    · have h1 : r ^ k ≤ s ^ k := ipow_le hr h k
      have := Int.mul_nonneg (show 0 ≤ s ^ k - r ^ k by omega) (show 0 ≤ s - r by omega)
      grind
    · have h1 : s ^ k ≤ r ^ k := ipow_le hs h k
      exact Int.mul_nonneg (by omega) (by omega)
  grind
theorem amgm {r s : Int} (hr : 0 ≤ r) (hs : 0 ≤ s) : ∀ k : Nat, ((k : Int) + 1) * s * r ^ k ≤ (k : Int) * (r * r ^ k) + s * s ^ k
  | 0 => by simp
  | k + 1 => by
    have h1 := amgm hr hs k
    have h2 := mono hr hs (k + 1)
    have h3 := Int.mul_le_mul_of_nonneg_left h1 hr
    rw [Int.pow_succ, Int.pow_succ] at *
    push_cast
    grind
theorem newton_ge {n r s : Int} {k : Nat} (hr : 1 ≤ r) (hs : 0 ≤ s) (h : s ^ (k + 1) ≤ n) : s ≤ ((k : Int) * r + n.fdiv (r ^ k)).fdiv ((k : Int) + 1) := by
  have hp : 0 < r ^ k := Int.pow_pos (by omega)
  have h1 := amgm (show 0 ≤ r by omega) hs k
  rw [Int.pow_succ] at h
  rw [Int.fdiv_eq_ediv_of_nonneg _ (Int.le_of_lt hp), Int.fdiv_eq_ediv_of_nonneg _ (by omega)]
  rw [Int.le_ediv_iff_mul_le (by omega)]
  have h2 : ((k : Int) + 1) * s - k * r ≤ n / r ^ k := by
    rw [Int.le_ediv_iff_mul_le hp]
    grind
  grind
theorem newton_le {n r : Int} {k : Nat} (hr : 1 ≤ r) (h : r ≤ ((k : Int) * r + n.fdiv (r ^ k)).fdiv ((k : Int) + 1)) : r ^ (k + 1) ≤ n := by
  have hp : 0 < r ^ k := Int.pow_pos (by omega)
  rw [Int.fdiv_eq_ediv_of_nonneg _ (Int.le_of_lt hp), Int.fdiv_eq_ediv_of_nonneg _ (by omega)] at h
  rw [Int.le_ediv_iff_mul_le (by omega)] at h
  have h2 : r ≤ n / r ^ k := by grind
  rw [Int.le_ediv_iff_mul_le hp] at h2
  rw [Int.pow_succ]
  grind
theorem start_ge {n s : Int} {k b : Nat} (hs : 0 ≤ s) (hb : n.natAbs < 2 ^ b) (hk : 0 < k) (h : s ^ k ≤ n) : s ≤ 1 * 2 ^ (b / k + 1) := by
  rw [Int.one_mul]
  rcases Int.le_total s (2 ^ (b / k + 1)) with z | z
  · exact z
  · exfalso
    have h1 : ((2 : Int) ^ (b / k + 1)) ^ k ≤ s ^ k := ipow_le (Int.le_of_lt (Int.pow_pos (by decide))) z k
    rw [← Int.pow_mul] at h1
    have h2 : b ≤ (b / k + 1) * k := by
      have := Nat.lt_div_mul_add (a := b) hk
      rw [Nat.add_mul, Nat.one_mul]
      omega
    have h3 : (2 : Nat) ^ b ≤ 2 ^ ((b / k + 1) * k) := Nat.pow_le_pow_right (by decide) h2
    have h4 : ((2 ^ b : Nat) : Int) ≤ ((2 ^ ((b / k + 1) * k) : Nat) : Int) := Int.ofNat_le.mpr h3
    rw [Int.natCast_pow, Int.natCast_pow] at h4
    have h5 : ((n.natAbs : Nat) : Int) < ((2 ^ b : Nat) : Int) := Int.ofNat_lt.mpr hb
    rw [Int.natCast_pow] at h5
    have e2 : ((2 : Nat) : Int) = 2 := rfl
    rw [e2] at h4 h5
    omega
theorem small_root {n s : Int} {k : Nat} (hs : 0 ≤ s) (hk : 1 ≤ k) (h : s ^ k ≤ n) : s ≤ n := by
  have h1 := le_npow s.natAbs hk
  have h2 : (s ^ k).natAbs = s.natAbs ^ k := Int.natAbs_pow s k
  have h3 : 0 ≤ s ^ k := Int.pow_nonneg hs
  omega
theorem pow01 {n : Int} (h0 : 0 ≤ n) (h2 : n < 2) {k : Nat} (hk : 1 ≤ k) : n ^ k ≤ n := by
  obtain ⟨j, rfl⟩ : ∃ j, k = j + 1 := ⟨k - 1, by omega⟩
  have e : n = 0 ∨ n = 1 := by omega
  rcases e with rfl | rfl
  · rw [Int.pow_succ, Int.mul_zero]
    exact Int.le_refl _
  · rw [Int.one_pow]
    exact Int.le_refl _
/-- the scale between two pairs -/
def U (c4 c6 e4 e6 : Int) (u : Rat) : Prop := 0 < u ∧ u ^ 4 * (e4 : Rat) = (c4 : Rat) ∧ u ^ 6 * (e6 : Rat) = (c6 : Rat)
theorem cz {a : Int} : (a : Rat) = 0 ↔ a = 0 := by
  constructor
  · intro h
    exact_mod_cast h
  · rintro rfl
    rfl
theorem pp {u : Rat} (h : 0 < u) (k : Nat) : u ^ k ≠ 0 := fun e => by
  have h1 := Rat.pow_pos (n := k) h
  rw [e] at h1
  exact absurd h1 (by decide)
theorem U.z4 {c4 c6 e4 e6 : Int} {u : Rat} (h : U c4 c6 e4 e6 u) : c4 = 0 ↔ e4 = 0 := by
  obtain ⟨h0, h1, h2⟩ := h
  have := pp h0 4
  rw [← cz, ← cz (a := e4), ← h1]
  grind
theorem U.z6 {c4 c6 e4 e6 : Int} {u : Rat} (h : U c4 c6 e4 e6 u) : c6 = 0 ↔ e6 = 0 := by
  obtain ⟨h0, h1, h2⟩ := h
  have := pp h0 6
  rw [← cz, ← cz (a := e6), ← h2]
  grind
theorem U.uniq {c4 c6 e4 e6 : Int} {u v : Rat} (z : e4 ≠ 0 ∨ e6 ≠ 0) (h : U c4 c6 e4 e6 u) (k : U c4 c6 e4 e6 v) : u = v := by
  obtain ⟨h0, h1, h2⟩ := h
  obtain ⟨k0, k1, k2⟩ := k
  rcases z with z | z
  · have z' : (e4 : Rat) ≠ 0 := fun e => z (cz.mp e)
    exact qpow_inj (k := 4) (by decide) h0 k0 (by grind)
  · have z' : (e6 : Rat) ≠ 0 := fun e => z (cz.mp e)
    exact qpow_inj (k := 6) (by decide) h0 k0 (by grind)
theorem U.p4 {c4 c6 e4 e6 : Int} {u : Rat} (z : e4 ≠ 0) (h : U c4 c6 e4 e6 u) : u ^ 4 = Rat.divInt c4 e4 := by
  obtain ⟨h0, h1, h2⟩ := h
  have z' : (e4 : Rat) ≠ 0 := fun e => z (cz.mp e)
  rw [Rat.divInt_eq_div]
  grind
theorem U.p6 {c4 c6 e4 e6 : Int} {u : Rat} (z : e6 ≠ 0) (h : U c4 c6 e4 e6 u) : u ^ 6 = Rat.divInt c6 e6 := by
  obtain ⟨h0, h1, h2⟩ := h
  have z' : (e6 : Rat) ≠ 0 := fun e => z (cz.mp e)
  rw [Rat.divInt_eq_div]
  grind
theorem U.p2 {c4 c6 e4 e6 : Int} {u : Rat} (z4 : c4 ≠ 0) (z6 : e6 ≠ 0) (h : U c4 c6 e4 e6 u) : u ^ 2 = Rat.divInt (c6 * e4) (e6 * c4) := by
  obtain ⟨h0, h1, h2⟩ := h
  have z6' : (e6 : Rat) ≠ 0 := fun e => z6 (cz.mp e)
  have z4' : (c4 : Rat) ≠ 0 := fun e => z4 (cz.mp e)
  have := pp h0 4
  rw [Rat.divInt_eq_div, Rat.intCast_mul, Rat.intCast_mul]
  have e : (c6 : Rat) * e4 = u ^ 2 * (e6 * c4) := by
    rw [← h1, ← h2]
    grind
  grind
theorem U.of4 {c4 e4 : Int} {u : Rat} (z : e4 ≠ 0) (h0 : 0 < u) (h : u ^ 4 = Rat.divInt c4 e4) : U c4 0 e4 0 u := by
  have z' : (e4 : Rat) ≠ 0 := fun e => z (cz.mp e)
  rw [Rat.divInt_eq_div] at h
  refine ⟨h0, by grind, by grind⟩
theorem U.of6 {c6 e6 : Int} {u : Rat} (z : e6 ≠ 0) (h0 : 0 < u) (h : u ^ 6 = Rat.divInt c6 e6) : U 0 c6 0 e6 u := by
  have z' : (e6 : Rat) ≠ 0 := fun e => z (cz.mp e)
  rw [Rat.divInt_eq_div] at h
  refine ⟨h0, by grind, by grind⟩
theorem U.of2 {c4 c6 e4 e6 : Int} {u : Rat} (z4 : c4 ≠ 0) (y4 : e4 ≠ 0) (z6 : e6 ≠ 0) (h0 : 0 < u) (h : u ^ 2 = Rat.divInt (c6 * e4) (e6 * c4)) : U c4 c6 e4 e6 u ↔ (u.num * u.num) * (u.num * u.num) * e4 = (u.den * u.den) * (u.den * u.den) * c4 := by
  have z6' : (e6 : Rat) ≠ 0 := fun e => z6 (cz.mp e)
  have z4' : (c4 : Rat) ≠ 0 := fun e => z4 (cz.mp e)
  have y4' : (e4 : Rat) ≠ 0 := fun e => y4 (cz.mp e)
  have hd := denR u
  have hu := as_div u
  rw [Rat.divInt_eq_div, Rat.intCast_mul, Rat.intCast_mul] at h
  have k : u ^ 4 * (e4 : Rat) = c4 ↔ (u.num * u.num) * (u.num * u.num) * e4 = ((u.den : Int) * u.den) * (u.den * u.den) * c4 := by
    rw [← Rat.intCast_inj]
    simp only [Rat.intCast_mul]
    constructor
    · intro e
      grind
    · intro e
      grind
  constructor
  · rintro ⟨_, h1, _⟩
    exact k.mp h1
  · intro e
    have h1 := k.mpr e
    refine ⟨h0, h1, ?_⟩
    have h3 : u ^ 6 = u ^ 4 * u ^ 2 := by grind
    have h5 : (e6 : Rat) * c4 ≠ 0 := fun e => by
      rcases Rat.mul_eq_zero.mp e with e | e
      · exact z6' e
      · exact z4' e
    have h6 : u ^ 2 * ((e6 : Rat) * c4) = c6 * e4 := by
      rw [h]
      grind
    have h7 : u ^ 6 * e6 * c4 = c6 * c4 := by
      rw [h3]
      have : u ^ 4 * u ^ 2 * e6 * c4 = u ^ 4 * (u ^ 2 * (e6 * c4)) := by grind
      rw [this, h6, ← h1]
      grind
    grind
theorem div_ne {n d : Int} (h : n ≠ 0) (k : d ≠ 0) : Rat.divInt n d ≠ 0 := fun e => by
  have hn : (n : Rat) ≠ 0 := fun e => h (cz.mp e)
  have hd : (d : Rat) ≠ 0 := fun e => k (cz.mp e)
  rw [Rat.divInt_eq_div] at e
  grind
theorem qpos {u : Rat} (h : 0 < u) (k : Nat) : 0 < u ^ k := Rat.pow_pos h
theorem U.pos6 {c4 c6 e4 e6 : Int} {u : Rat} (z : e6 ≠ 0) (h : U c4 c6 e4 e6 u) : 0 < (Rat.divInt c6 e6).num := by
  rw [← U.p6 z h]
  exact num_pos (qpos h.1 6)
theorem U.pos4 {c4 c6 e4 e6 : Int} {u : Rat} (z : e4 ≠ 0) (h : U c4 c6 e4 e6 u) : 0 < c4 * e4 := by
  have h1 : 0 < (Rat.divInt c4 e4).num := by
    rw [← U.p4 z h]
    exact num_pos (qpos h.1 4)
  rw [Rat.num_divInt] at h1
  have h2 : 0 < e4.sign * c4 := by
    have hg : (0 : Int) < ((Int.gcd e4 c4 : Nat) : Int) := by
      have := Int.gcd_pos_of_ne_zero_left c4 z
      omega
    have h3 := (Int.le_ediv_iff_mul_le (a := 1) (b := e4.sign * c4) hg).mp (by omega)
    omega
  rcases Int.lt_trichotomy e4 0 with y | y | y
  · rw [Int.sign_eq_neg_one_of_neg y] at h2
    exact Int.mul_pos_of_neg_of_neg (by omega) y
  · exact absurd y z
  · rw [Int.sign_eq_one_of_pos y] at h2
    exact Int.mul_pos (by omega) y
theorem U.sq4 {c4 c6 e4 e6 : Int} {u r : Rat} (z : e4 ≠ 0) (h : U c4 c6 e4 e6 u) (r0 : 0 < r) (re : r ^ 2 = Rat.divInt c4 e4) : u ^ 2 = r := by
  refine qpow_inj (k := 2) (by decide) (qpos h.1 2) r0 ?_
  rw [re, ← U.p4 z h]
  grind
theorem U.sq4' {c4 c6 e4 e6 : Int} {u : Rat} (z : e4 ≠ 0) (h : U c4 c6 e4 e6 u) : (u ^ 2) ^ 2 = Rat.divInt c4 e4 := by
  rw [← U.p4 z h]
  grind
theorem U.cb6 {c4 c6 e4 e6 : Int} {u r : Rat} (z : e6 ≠ 0) (h : U c4 c6 e4 e6 u) (r0 : 0 < r) (re : r ^ 3 = Rat.divInt c6 e6) : u ^ 2 = r := by
  refine qpow_inj (k := 3) (by decide) (qpos h.1 2) r0 ?_
  rw [re, ← U.p6 z h]
  grind
theorem U.cb6' {c4 c6 e4 e6 : Int} {u : Rat} (z : e6 ≠ 0) (h : U c4 c6 e4 e6 u) : (u ^ 2) ^ 3 = Rat.divInt c6 e6 := by
  rw [← U.p6 z h]
  grind
theorem U.iff {c4 c6 e4 e6 : Int} {u : Rat} (h : 0 < u) : U c4 c6 e4 e6 u ↔ (e6 : Rat) * u ^ 6 = (c6 : Rat) ∧ (e4 : Rat) * u ^ 4 = (c4 : Rat) := by
  unfold U
  constructor
  · rintro ⟨_, h1, h2⟩
    exact ⟨by grind, by grind⟩
  · rintro ⟨h1, h2⟩
    exact ⟨h, by grind, by grind⟩
end QM
set_option Elab.async false
set_option linter.all false
set_option maxRecDepth 100000
namespace L2
open PySem PySem.Spec PyProof.Rows
section
variable {X : Cx}
def rIsqrt : List V → Hp → VK → Prop := fun vs H Q => ∃ a : Int, vs = [.int a] ∧ 0 ≤ a ∧ a.natAbs < 2 ^ 4000 ∧ Q (.int ((Float64.isqrt a.toNat : Nat) : Int)) H
theorem isq_int1 {i : Int} {us : List Value} (r : Vals [V.int i] us) : ∃ t, us = [Value.int i t] := by
  obtain ⟨t, u, h⟩ := Vals.int2 (i := i) (j := i) (us := us ++ us) (by
    cases r with
    | cons a b => cases b; exact .cons a (.cons a .nil))
  match us, h with
  | [_], h => exact ⟨t, by simp at h; rw [h.1]⟩
  | [], h => simp at h
  | _ :: _ :: _, h => simp at h
theorem cr_isqrt : CallR X (.builtin "math.isqrt") rIsqrt := by
  intro pins s σ H vs us Q I r h
  obtain ⟨a, rfl, h0, h1, q⟩ := h
  obtain ⟨t, rfl⟩ := isq_int1 r
  have hl : a.toNat.log2 ≤ 3999 := PySem.W.mg_log (k := 3999) (by rw [show a.toNat = a.natAbs by omega]; exact h1)
  exact call_function_meets PySem.W.MGF.kind_isqrt PySem.W.MGF.plain_isqrt PySem.W.MGF.entry_isqrt (PySem.W.MGF.args_isqrt _) (PySem.W.mg_run_isqrt a t (by omega) (by omega) (by omega)).meets ⟨.int _, H, I.tok _, ⟨_, rfl⟩, q⟩
end
end L2
namespace QM
/-- the whole root of a number -/
theorem isqrt_is {n : Int} (h : 0 ≤ n) : ((PySem.Float64.isqrt n.toNat : Nat) : Int) * ((PySem.Float64.isqrt n.toNat : Nat) : Int) ≤ n ∧ ∀ s : Int, 0 ≤ s → s * s ≤ n → s ≤ ((PySem.Float64.isqrt n.toNat : Nat) : Int) := by
  obtain ⟨a, b⟩ := PySem.Float64.isqrt_spec n.toNat
  generalize PySem.Float64.isqrt n.toNat = q at a b
  have e : ((n.toNat : Nat) : Int) = n := Int.toNat_of_nonneg h
  have a' : (q : Int) * q ≤ n := by rw [← e]; exact_mod_cast a
  have b' : n < ((q : Int) + 1) * (q + 1) := by rw [← e]; exact_mod_cast b
  refine ⟨a', fun s hs h1 => ?_⟩
  rcases (show (q : Int) < s ∨ s ≤ q by omega) with z | z
  · exfalso
    have := Int.mul_le_mul (show (q : Int) + 1 ≤ s by omega) (show (q : Int) + 1 ≤ s by omega) (by omega) hs
    omega
  · exact z
end QM
set_option linter.all false
/-! points of y y = x x x + a x x + b x + c over the fractions: plain Lean -/
namespace EcM
open QM
structure Ec where
  a : Int
  b : Int
  c : Int
abbrev Pt := Option (Rat × Rat)
def Ec.f (e : Ec) (x : Rat) : Rat := x * x * x + (e.a : Rat) * x * x + (e.b : Rat) * x + (e.c : Rat)
def On (e : Ec) : Pt → Prop
  | none => True
  | some (x, y) => y * y = e.f x
def neg : Pt → Pt
  | none => none
  | some (x, y) => some (x, -y)
/-- the slope -/
def slo (e : Ec) (x y u v : Rat) : Rat := if x = u ∧ y = v then (3 * (x * x) + (((2 * e.a : Int) : Rat) * x + (e.b : Rat))) / (2 * y) else (v - y) / (u - x)
def px (e : Ec) (k x u : Rat) : Rat := k * k - (e.a : Rat) - x - u
def sum (e : Ec) : Pt → Pt → Pt
  | none, Q => Q
  | some P, none => some P
  | some (x, y), some (u, v) => if x = u ∧ -y = v then none else
      some (px e (slo e x y u v) x u, -(y + slo e x y u v * (px e (slo e x y u v) x u - x)))
theorem On.neg {e : Ec} {P : Pt} (h : On e P) : On e (neg P) := by
  match P, h with
  | none, _ => trivial
  | some (x, y), h =>
    show -y * -y = e.f x
    have h' : y * y = e.f x := h
    grind
theorem same_x {e : Ec} {x y v : Rat} (h : y * y = e.f x) (k : v * v = e.f x) : y = v ∨ -y = v := by
  have h1 : (y - v) * (y + v) = 0 := by grind
  rcases Rat.mul_eq_zero.mp h1 with z | z
  · left; grind
  · right; grind
theorem sl_dbl {e : Ec} {x y : Rat} : slo e x y x y = (3 * (x * x) + (((2 * e.a : Int) : Rat) * x + (e.b : Rat))) / (2 * y) := if_pos ⟨rfl, rfl⟩
theorem sl_two {e : Ec} {x y u v : Rat} (h : ¬ (x = u ∧ y = v)) : slo e x y u v = (v - y) / (u - x) := if_neg h
/-- what the slope is, without a fraction -/
theorem slope_is {e : Ec} {x y u v : Rat} (h : y * y = e.f x) (k : v * v = e.f u) (n : ¬ (x = u ∧ -y = v)) :
    (x ≠ u ∧ slo e x y u v * (u - x) = v - y) ∨ (x = u ∧ y = v ∧ y ≠ 0 ∧ slo e x y u v * (2 * y) = 3 * (x * x) + 2 * (e.a : Rat) * x + (e.b : Rat)) := by
  by_cases hx : x = u
  · subst hx
    right
    have hy : y = v := by
      rcases same_x h k with z | z
      · exact z
      · exact absurd ⟨rfl, z⟩ n
    subst hy
    have y0 : y ≠ 0 := fun z => n ⟨rfl, by rw [z]; rfl⟩
    refine ⟨rfl, rfl, y0, ?_⟩
    rw [sl_dbl]
    have e2 : ((2 * e.a : Int) : Rat) = 2 * (e.a : Rat) := by rw [Rat.intCast_mul]; rfl
    rw [e2]
    have h2 : (2 * y : Rat) ≠ 0 := by grind
    rw [Rat.div_mul_cancel h2]
    grind
  · left
    refine ⟨hx, ?_⟩
    rw [sl_two (fun z => hx z.1)]
    have h2 : (u - x : Rat) ≠ 0 := by grind
    rw [Rat.div_mul_cancel h2]
theorem on_two {a b c x y u v k : Rat} (h : y * y = x * x * x + a * x * x + b * x + c) (h2 : v * v = u * u * u + a * u * u + b * u + c) (hx : x ≠ u) (hk : k * (u - x) = v - y) :
    (y + k * ((k * k - a - x - u) - x)) * (y + k * ((k * k - a - x - u) - x)) = (k * k - a - x - u) * (k * k - a - x - u) * (k * k - a - x - u) + a * (k * k - a - x - u) * (k * k - a - x - u) + b * (k * k - a - x - u) + c := by
  have h0 : (u - x : Rat) ≠ 0 := by grind
  have e1 : k * (v + y) = u * u + u * x + x * x + a * (u + x) + b := by
    have : (u - x) * (k * (v + y) - (u * u + u * x + x * x + a * (u + x) + b)) = 0 := by grind
    rcases Rat.mul_eq_zero.mp this with z | z
    · exact absurd z h0
    · grind
  have e2 : v = y + k * (u - x) := by grind
  subst e2
  grind
theorem on_dbl {a b c x y k : Rat} (h : y * y = x * x * x + a * x * x + b * x + c) (hk : k * (2 * y) = 3 * (x * x) + 2 * a * x + b) :
    (y + k * ((k * k - a - x - x) - x)) * (y + k * ((k * k - a - x - x) - x)) = (k * k - a - x - x) * (k * k - a - x - x) * (k * k - a - x - x) + a * (k * k - a - x - x) * (k * k - a - x - x) + b * (k * k - a - x - x) + c := by
  grind
theorem On.sum {e : Ec} {P Q : Pt} (h : On e P) (k : On e Q) : On e (sum e P Q) := by
  match P, Q, h, k with
  | none, Q, _, k => exact k
  | some P, none, h, _ => exact h
  | some (x, y), some (u, v), h, k =>
    show On e (if x = u ∧ -y = v then none else _)
    split
    · trivial
    · rename_i n
      show -(y + _) * -(y + _) = _
      have h' : y * y = x * x * x + (e.a : Rat) * x * x + (e.b : Rat) * x + (e.c : Rat) := h
      have k' : v * v = u * u * u + (e.a : Rat) * u * u + (e.b : Rat) * u + (e.c : Rat) := k
      rcases slope_is h k n with ⟨hx, hk⟩ | ⟨rfl, rfl, y0, hk⟩
      · have := on_two h' k' hx hk
        unfold px Ec.f
        rw [Rat.neg_mul, Rat.mul_neg, Rat.neg_neg]
        exact this
      · have := on_dbl h' hk
        unfold px Ec.f
        rw [Rat.neg_mul, Rat.mul_neg, Rat.neg_neg]
        exact this
end EcM
set_option linter.all false
/-! sizes of points: plain Lean -/
namespace EcM
open QM
/-- below 2 ^ n -/
def Z (n : Nat) (x : Int) : Prop := x.natAbs < 2 ^ n
theorem Z.up {m n : Nat} {x : Int} (h : Z m x) (k : m ≤ n) : Z n x := Nat.lt_of_lt_of_le h (Nat.pow_le_pow_right (by decide) k)
theorem Z.mul {m n : Nat} {x y : Int} (h : Z m x) (k : Z n y) : Z (m + n) (x * y) := by
  unfold Z
  rw [Int.natAbs_mul]
  exact pmul h k
theorem Z.add {m n : Nat} {x y : Int} (h : Z m x) (k : Z m y) (e : m + 1 ≤ n) : Z n (x + y) := by
  refine Z.up (m := m + 1) ?_ e
  unfold Z at *
  rw [Nat.pow_succ]
  omega
theorem Z.sub {m n : Nat} {x y : Int} (h : Z m x) (k : Z m y) (e : m + 1 ≤ n) : Z n (x - y) := by
  refine Z.up (m := m + 1) ?_ e
  unfold Z at *
  rw [Nat.pow_succ]
  omega
theorem Z.lit {n : Nat} {x : Int} (h : x.natAbs < 2 ^ n) : Z n x := h
structure Ec.Bd (e : Ec) (g : Nat) : Prop where
  g2 : 2 ≤ g
  a : Z g e.a
  b : Z g e.b
  c : Z g e.c
def HB (h : Nat) : Pt → Prop
  | none => True
  | some (x, _) => RB h x
theorem HB.up {h k : Nat} {P : Pt} (z : HB h P) (l : h ≤ k) : HB k P := by
  match P, z with
  | none, _ => trivial
  | some (x, y), z => exact RB.up z l
theorem den_one {q : Rat} {n : Int} (h : q * q = (n : Rat)) : q.den = 1 := by
  have e : (q ^ 2).den = q.den ^ 2 := dpow q 2
  have e2 : q ^ 2 = (n : Rat) := by rw [← h, Rat.pow_succ, Rat.pow_succ, Rat.pow_zero, Rat.one_mul]
  rw [e2, Rat.den_intCast] at e
  have h1 : q.den ≤ q.den ^ 2 := le_npow _ (by decide)
  have := q.den_nz
  omega
theorem num_of {q : Rat} (h : q.den = 1) : q = ((q.num : Int) : Rat) := Rat.ext (by rw [Rat.num_intCast]) (by rw [Rat.den_intCast]; exact h)
theorem y_eq {a b c x y A D : Rat} (hx : x * D = A) (h : y * y = x * x * x + a * x * x + b * x + c) : (y * (D * D)) * (y * (D * D)) = (A * A * A + a * (A * A) * D + b * A * (D * D) + c * (D * D * D)) * D := by
  subst hx
  grind
theorem x_num (x : Rat) : x * ((x.den : Int) : Rat) = (x.num : Rat) := by
  have h := as_div x
  have h0 := denR x
  have : (x.num : Rat) / ((x.den : Int) : Rat) * ((x.den : Int) : Rat) = (x.num : Rat) := Rat.div_mul_cancel h0
  rw [← h] at this
  exact this
/-- y's number over the square of x's lower one -/
theorem y_is {e : Ec} {x y : Rat} {h g : Nat} (hc : y * y = e.f x) (hB : RB h x) (k : e.Bd g) : ∃ Y : Int, y * (((x.den : Int) : Rat) * ((x.den : Int) : Rat)) = (Y : Rat) ∧ Z (2 * h + g) Y := by
  obtain ⟨g2, ka, kb, kc⟩ := k
  have ex := x_num x
  have e1 := y_eq ex (show y * y = x * x * x + (e.a : Rat) * x * x + (e.b : Rat) * x + (e.c : Rat) from hc)
  obtain ⟨A, hA⟩ : ∃ A, x.num = A := ⟨_, rfl⟩
  obtain ⟨D, hD⟩ : ∃ D, (x.den : Int) = D := ⟨_, rfl⟩
  have zA : Z h A := hA ▸ hB.1
  have zD : Z h D := hD ▸ hB.2
  rw [hA, hD] at e1
  rw [hD]
  have e2 : ((A : Rat) * A * A + e.a * (A * A) * D + e.b * A * (D * D) + e.c * (D * D * D)) * D = (((A * A * A + e.a * (A * A) * D + e.b * A * (D * D) + e.c * (D * D * D)) * D : Int) : Rat) := by
    push_cast
    rfl
  rw [e2] at e1
  have d1 := den_one e1
  have n1 := num_of d1
  refine ⟨_, n1, ?_⟩
  obtain ⟨q, hq⟩ : ∃ q, y * ((D : Rat) * D) = q := ⟨_, rfl⟩
  rw [hq] at e1 d1 n1 ⊢
  have e3 : q.num * q.num = (A * A * A + e.a * (A * A) * D + e.b * A * (D * D) + e.c * (D * D * D)) * D := by
    rw [n1, ← Rat.intCast_mul] at e1
    exact_mod_cast e1
  have b0 : Z (4 * h + g + 2) (q.num * q.num) := by
    rw [e3, show (A * A * A + e.a * (A * A) * D + e.b * A * (D * D) + e.c * (D * D * D)) * D = (A * A * A * D + e.a * (A * A) * D * D) + (e.b * A * (D * D) * D + e.c * (D * D * D) * D) by grind]
    have t1 : Z (4 * h + g) (A * A * A * D) := (((zA.mul zA).mul zA).mul zD).up (by omega)
    have t2 : Z (4 * h + g) (e.a * (A * A) * D * D) := (((ka.mul (zA.mul zA)).mul zD).mul zD).up (by omega)
    have t3 : Z (4 * h + g) (e.b * A * (D * D) * D) := (((kb.mul zA).mul (zD.mul zD)).mul zD).up (by omega)
    have t4 : Z (4 * h + g) (e.c * (D * D * D) * D) := ((kc.mul ((zD.mul zD).mul zD)).mul zD).up (by omega)
    exact (t1.add t2 (Nat.le_refl _)).add (t3.add t4 (Nat.le_refl _)) (by omega)
  unfold Z at *
  rw [Int.natAbs_mul] at b0
  rcases Nat.lt_or_ge q.num.natAbs (2 ^ (2 * h + g)) with z | z
  · exact z
  · exfalso
    have h1 := Nat.mul_le_mul z z
    rw [← Nat.pow_add] at h1
    have h2 : 2 ^ (4 * h + g + 2) ≤ 2 ^ (2 * h + g + (2 * h + g)) := Nat.pow_le_pow_right (by decide) (by omega)
    omega
theorem rb_of {q : Rat} {n d : Int} {m : Nat} (e : q * (d : Rat) = (n : Rat)) (h : d ≠ 0) (hn : Z m n) (hd : Z m d) : RB m q := by
  have h0 : (d : Rat) ≠ 0 := fun z => h (by exact_mod_cast z)
  have e2 : q = Rat.divInt n d := by
    rw [Rat.divInt_eq_div, ← e, Rat.mul_div_cancel h0]
  rw [e2]
  exact RB.of h hn hd
theorem y_RB {e : Ec} {x y : Rat} {h g : Nat} (hc : y * y = e.f x) (hB : RB h x) (k : e.Bd g) : RB (2 * h + g) y := by
  obtain ⟨Y, e1, hY⟩ := y_is hc hB k
  have e2 : y * (((x.den : Int) * (x.den : Int) : Int) : Rat) = (Y : Rat) := by
    rw [Rat.intCast_mul]
    exact e1
  have zD : Z h (x.den : Int) := hB.2
  exact rb_of e2 (mul_ne (den_ne x) (den_ne x)) hY ((zD.mul zD).up (by omega))
theorem two_x {a b c x y u v k A D A2 D2 Y Y2 : Rat} (hA : x * D = A) (hA2 : u * D2 = A2) (hY : y * (D * D) = Y) (hY2 : v * (D2 * D2) = Y2) (h : y * y = x * x * x + a * x * x + b * x + c) (h2 : v * v = u * u * u + a * u * u + b * u + c) (hk : k * (u - x) = v - y) :
    (k * k - a - x - u) * ((A * D2 - A2 * D) * (A * D2 - A2 * D)) = ((A * A2 + b * (D * D2)) * (A * D2 + A2 * D) + 2 * a * (A * A2) * (D * D2)) + (2 * c * (D * D2) * (D * D2) - 2 * Y * Y2) := by
  have e : (k * k - a - x - u) * ((u - x) * (u - x)) = (x * u + b) * (x + u) + 2 * a * x * u + 2 * c - 2 * y * v := by
    have e3 : (k * (u - x)) * (k * (u - x)) = (v - y) * (v - y) := by rw [hk]
    grind
  subst hA hA2 hY hY2
  grind
theorem dbl_x {a b c x y k A D : Rat} (hA : x * D = A) (h : y * y = x * x * x + a * x * x + b * x + c) (hk : k * (2 * y) = 3 * (x * x) + 2 * a * x + b) :
    (k * k - a - x - x) * (4 * ((A * A * A + a * (A * A) * D + b * A * (D * D) + c * (D * D * D)) * D)) = (A * A * A * A - 2 * b * (A * A) * (D * D)) + ((b * b - 4 * a * c) * (D * D) * (D * D) - 8 * c * (A * D) * (D * D)) := by
  have e : (k * k - a - x - x) * (4 * (y * y)) = x * x * x * x - 2 * b * (x * x) - 8 * c * x + b * b - 4 * a * c := by
    have e3 : (k * (2 * y)) * (k * (2 * y)) = (3 * (x * x) + 2 * a * x + b) * (3 * (x * x) + 2 * a * x + b) := by rw [hk]
    grind
  subst hA
  have e4 : (x * D * (x * D) * (x * D) + a * (x * D * (x * D)) * D + b * (x * D) * (D * D) + c * (D * D * D)) * D = (y * y) * (D * D * (D * D)) := by
    rw [h]
    grind
  rw [e4]
  grind
theorem sum_HB {e : Ec} {P Q : Pt} {h j g : Nat} (p : On e P) (q : On e Q) (hP : HB h P) (hQ : HB j Q) (k : e.Bd g) : HB (2 * h + 2 * j + 2 * g + 6) (sum e P Q) := by
  match P, Q, p, q, hP, hQ with
  | none, Q, _, _, _, hQ => exact hQ.up (by omega)
  | some P, none, _, _, hP, _ => exact HB.up hP (by omega)
  | some (x, y), some (u, v), p, q, hP, hQ =>
    show HB _ (if x = u ∧ -y = v then none else _)
    split
    · trivial
    rename_i n
    show RB _ (px e (slo e x y u v) x u)
    replace p : y * y = e.f x := p
    replace q : v * v = e.f u := q
    replace hP : RB h x := hP
    replace hQ : RB j u := hQ
    obtain ⟨Y, hY, zY⟩ := y_is p hP k
    obtain ⟨Y2, hY2, zY2⟩ := y_is q hQ k
    have ex := x_num x
    have eu := x_num u
    obtain ⟨g2, ka, kb, kc⟩ := k
    rcases slope_is p q n with ⟨hx, hk⟩ | ⟨rfl, rfl, y0, hk⟩
    · have t := two_x (a := (e.a : Rat)) (b := (e.b : Rat)) (c := (e.c : Rat)) ex eu hY hY2 p q hk
      have nz : x.num * (u.den : Int) - u.num * (x.den : Int) ≠ 0 := by
        intro z
        apply hx
        have z2 : ((x.num * (u.den : Int) - u.num * (x.den : Int) : Int) : Rat) = 0 := by rw [z]; rfl
        rw [Rat.intCast_sub, Rat.intCast_mul, Rat.intCast_mul, ← ex, ← eu] at z2
        have d1 := denR x
        have d2 := denR u
        grind
      obtain ⟨A, hA⟩ : ∃ A, x.num = A := ⟨_, rfl⟩
      obtain ⟨D, hD⟩ : ∃ D, (x.den : Int) = D := ⟨_, rfl⟩
      obtain ⟨A2, hA2⟩ : ∃ A, u.num = A := ⟨_, rfl⟩
      obtain ⟨D2, hD2⟩ : ∃ D, (u.den : Int) = D := ⟨_, rfl⟩
      have zA : Z h A := hA ▸ hP.1
      have zD : Z h D := hD ▸ hP.2
      have zA2 : Z j A2 := hA2 ▸ hQ.1
      have zD2 : Z j D2 := hD2 ▸ hQ.2
      rw [hA, hD, hA2, hD2] at t nz
      refine rb_of (d := (A * D2 - A2 * D) * (A * D2 - A2 * D)) (n := ((A * A2 + e.b * (D * D2)) * (A * D2 + A2 * D) + 2 * e.a * (A * A2) * (D * D2)) + (2 * e.c * (D * D2) * (D * D2) - 2 * Y * Y2)) ?_ (mul_ne nz nz) ?_ ?_
      · show (slo e x y u v * slo e x y u v - (e.a : Rat) - x - u) * _ = _
        push_cast
        exact t
      · have l2 : Z 2 2 := Z.lit (by decide)
        have u1 : Z (h + j + g + 1) (A * A2 + e.b * (D * D2)) := ((zA.mul zA2).up (n := h + j + g) (by omega)).add ((kb.mul (zD.mul zD2)).up (by omega)) (Nat.le_refl _)
        have u2 : Z (h + j + 1) (A * D2 + A2 * D) := (zA.mul zD2).add ((zA2.mul zD).up (by omega)) (Nat.le_refl _)
        have u3 := ((l2.mul ka).mul (zA.mul zA2)).mul (zD.mul zD2)
        have u4 := ((l2.mul kc).mul (zD.mul zD2)).mul (zD.mul zD2)
        have u5 := (l2.mul zY).mul zY2
        have w1 := ((u1.mul u2).up (n := 2 * h + 2 * j + 2 * g + 2) (by omega)).add (u3.up (by omega)) (Nat.le_refl _)
        have w2 := (u4.up (n := 2 * h + 2 * j + 2 * g + 2) (by omega)).sub (u5.up (by omega)) (Nat.le_refl _)
        exact w1.add w2 (by omega)
      · have u1 : Z (h + j + 1) (A * D2 - A2 * D) := (zA.mul zD2).sub ((zA2.mul zD).up (by omega)) (Nat.le_refl _)
        exact (u1.mul u1).up (by omega)
    · have t := dbl_x (a := (e.a : Rat)) (b := (e.b : Rat)) (c := (e.c : Rat)) ex p hk
      have nz : (x.num * x.num * x.num + e.a * (x.num * x.num) * (x.den : Int) + e.b * x.num * ((x.den : Int) * (x.den : Int)) + e.c * ((x.den : Int) * (x.den : Int) * (x.den : Int))) * (x.den : Int) ≠ 0 := by
        intro z
        have z1 := y_eq ex (show y * y = x * x * x + (e.a : Rat) * x * x + (e.b : Rat) * x + (e.c : Rat) from p)
        have z2 : (((x.num * x.num * x.num + e.a * (x.num * x.num) * (x.den : Int) + e.b * x.num * ((x.den : Int) * (x.den : Int)) + e.c * ((x.den : Int) * (x.den : Int) * (x.den : Int))) * (x.den : Int) : Int) : Rat) = 0 := by rw [z]; rfl
        push_cast at z2
        have d1 := denR x
        have z3 : y * (((x.den : Int) : Rat) * ((x.den : Int) : Rat)) ≠ 0 := by
          intro z4
          rcases Rat.mul_eq_zero.mp z4 with z5 | z5
          · exact y0 z5
          · rcases Rat.mul_eq_zero.mp z5 with z6 | z6 <;> exact d1 z6
        have z7 : y * (((x.den : Int) : Rat) * ((x.den : Int) : Rat)) * (y * (((x.den : Int) : Rat) * ((x.den : Int) : Rat))) = 0 := z1.trans z2
        rcases Rat.mul_eq_zero.mp z7 with z8 | z8 <;> exact z3 z8
      obtain ⟨A, hA⟩ : ∃ A, x.num = A := ⟨_, rfl⟩
      obtain ⟨D, hD⟩ : ∃ D, (x.den : Int) = D := ⟨_, rfl⟩
      have zA : Z h A := hA ▸ hP.1
      have zD : Z h D := hD ▸ hP.2
      have zA' : Z j A := hA ▸ hQ.1
      have zD' : Z j D := hD ▸ hQ.2
      rw [hA, hD] at t nz
      refine rb_of (d := 4 * ((A * A * A + e.a * (A * A) * D + e.b * A * (D * D) + e.c * (D * D * D)) * D)) (n := (A * A * A * A - 2 * e.b * (A * A) * (D * D)) + ((e.b * e.b - 4 * e.a * e.c) * (D * D) * (D * D) - 8 * e.c * (A * D) * (D * D))) ?_ (mul_ne (by decide) nz) ?_ ?_
      · show (slo e x y x y * slo e x y x y - (e.a : Rat) - x - x) * _ = _
        push_cast
        exact t
      · have l2 : Z 2 2 := Z.lit (by decide)
        have l4 : Z 3 4 := Z.lit (by decide)
        have l8 : Z 4 8 := Z.lit (by decide)
        have u1 := ((zA.mul zA').mul zA).mul zA'
        have u2 := ((l2.mul kb).mul (zA.mul zA')).mul (zD.mul zD')
        have u3 : Z (2 * g + 4) (e.b * e.b - 4 * e.a * e.c) := ((kb.mul kb).up (n := 2 * g + 3) (by omega)).sub (((l4.mul ka).mul kc).up (by omega)) (Nat.le_refl _)
        have u4 := u3.mul ((zD.mul zD').mul (zD.mul zD'))
        have u5 := (((l8.mul kc).mul (zA.mul zD')).mul (zD.mul zD'))
        have w1 := (u1.up (n := 2 * h + 2 * j + g + 2) (by omega)).sub (u2.up (by omega)) (Nat.le_refl _)
        have w2 := (u4.up (n := 2 * h + 2 * j + 2 * g + 4) (by omega)).sub (u5.up (by omega)) (Nat.le_refl _)
        have w3 := (w1.up (n := 2 * h + 2 * j + 2 * g + 5) (by omega)).add (w2.up (by omega)) (n := 2 * h + 2 * j + 2 * g + 6) (by omega)
        rw [show (A * A * A * A - 2 * e.b * (A * A) * (D * D)) + ((e.b * e.b - 4 * e.a * e.c) * (D * D) * (D * D) - 8 * e.c * (A * D) * (D * D)) = (A * A * A * A - 2 * e.b * (A * A) * (D * D)) + ((e.b * e.b - 4 * e.a * e.c) * ((D * D) * (D * D)) - 8 * e.c * (A * D) * (D * D)) by grind]
        exact w3
      · have t1 : Z (2 * h + 2 * j + g) (A * A * A * D) := (((zA.mul zA').mul zA).mul zD').up (by omega)
        have t2 : Z (2 * h + 2 * j + g) (e.a * (A * A) * D * D) := (((ka.mul (zA.mul zA')).mul zD).mul zD').up (by omega)
        have t3 : Z (2 * h + 2 * j + g) (e.b * A * (D * D) * D) := (((kb.mul zA).mul (zD.mul zD')).mul zD').up (by omega)
        have t4 : Z (2 * h + 2 * j + g) (e.c * (D * D * D) * D) := ((kc.mul ((zD.mul zD').mul zD)).mul zD').up (by omega)
        have t5 := (Z.lit (n := 3) (x := 4) (by decide)).mul ((t1.add t2 (Nat.le_refl _)).add (t3.add t4 (Nat.le_refl _)) (Nat.le_refl _))
        rw [show 4 * ((A * A * A + e.a * (A * A) * D + e.b * A * (D * D) + e.c * (D * D * D)) * D) = 4 * ((A * A * A * D + e.a * (A * A) * D * D) + (e.b * A * (D * D) * D + e.c * (D * D * D) * D)) by grind]
        exact t5.up (by omega)
/-! ### squares -/
theorem sq0 (r : Int) : 0 ≤ r * r := by
  rcases Int.le_total 0 r with h | h
  · exact Int.mul_nonneg h h
  · have := Int.mul_nonneg (show 0 ≤ -r by omega) (show 0 ≤ -r by omega)
    rw [Int.neg_mul_neg] at this
    exact this
/-- the whole root of n, if there is one -/
def SqR (n : Int) : Option Int → Prop
  | some r => 0 ≤ r ∧ r * r = n
  | none => ∀ r : Int, r * r ≠ n
theorem sq_inj {r s : Int} (h : 0 ≤ r) (k : 0 ≤ s) (e : r * r = s * s) : r = s := by
  have e2 : r.natAbs * r.natAbs = s.natAbs * s.natAbs := by rw [← Int.natAbs_mul, ← Int.natAbs_mul, e]
  have := Nat.mul_self_inj.mp e2
  omega
theorem SqR.uniq {n : Int} {o p : Option Int} (h : SqR n o) (k : SqR n p) : o = p := by
  match o, p, h, k with
  | none, none, _, _ => rfl
  | none, some r, h, k => exact absurd k.2 (h r)
  | some r, none, h, k => exact absurd h.2 (k r)
  | some r, some s, h, k => exact congrArg some (sq_inj h.1 k.1 (h.2.trans k.2.symm))
theorem sq_max {n y r : Int} (y0 : 0 ≤ y) (yle : y * y ≤ n) (ymax : ∀ s, 0 ≤ s → s * s ≤ n → s ≤ y) (h : r * r = n) : y * y = n := by
  have h1 : ((r.natAbs : Nat) : Int) * ((r.natAbs : Nat) : Int) = n := by rw [Int.natAbs_mul_self', h]
  have h2 := ymax (r.natAbs : Int) (by omega) (by omega)
  have h3 := Int.mul_le_mul h2 h2 (by omega) y0
  omega
/-- the root of a fraction, if there is one -/
def SqQ (a : Rat) : Option Rat → Prop
  | some r => 0 ≤ r ∧ r * r = a
  | none => ∀ r : Rat, r * r ≠ a
theorem nn_num {r : Rat} (h : 0 ≤ r) : 0 ≤ r.num := Rat.num_nonneg.mpr h
theorem sq_num (r : Rat) : (r * r).num = r.num * r.num ∧ (((r * r).den : Nat) : Int) = (r.den : Int) * (r.den : Int) := by
  have e : r * r = r ^ 2 := by rw [Rat.pow_succ, Rat.pow_succ, Rat.pow_zero, Rat.one_mul]
  rw [e, npow, dpow]
  refine ⟨by rw [Int.pow_succ, Int.pow_succ, Int.pow_zero, Int.one_mul], ?_⟩
  rw [Nat.pow_succ, Nat.pow_succ, Nat.pow_zero, Nat.one_mul]
  exact_mod_cast rfl
theorem SqQ.uniq {n : Rat} {o p : Option Rat} (h : SqQ n o) (k : SqQ n p) : o = p := by
  match o, p, h, k with
  | none, none, _, _ => rfl
  | none, some r, h, k => exact absurd k.2 (h r)
  | some r, none, h, k => exact absurd h.2 (k r)
  | some r, some s, h, k =>
    have e := h.2.trans k.2.symm
    obtain ⟨a1, a2⟩ := sq_num r
    obtain ⟨b1, b2⟩ := sq_num s
    rw [e] at a1 a2
    have e1 := sq_inj (nn_num h.1) (nn_num k.1) (a1.symm.trans b1)
    have e2 := sq_inj (r := (r.den : Int)) (s := (s.den : Int)) (by omega) (by omega) (a2.symm.trans b2)
    exact congrArg some (Rat.ext e1 (by omega))
theorem SqQ.none1 {a : Rat} (h : SqR a.num none) : SqQ a none := fun r e => h r.num (by rw [← (sq_num r).1, e])
theorem SqQ.none2 {a : Rat} (h : SqR (a.den : Int) none) : SqQ a none := fun r e => h (r.den : Int) (by rw [← (sq_num r).2, e])
/-- out of the roots of its numbers -/
theorem SqQ.of {a : Rat} {n d : Int} (h : SqR a.num (some n)) (k : SqR (a.den : Int) (some d)) : ∃ r : Rat, SqQ a (some r) ∧ r.num = n ∧ (r.den : Int) = d := by
  obtain ⟨h1, h2⟩ := h
  obtain ⟨k1, k2⟩ := k
  have d0 : d ≠ 0 := fun z => den_ne a (by rw [← k2, z]; rfl)
  have c : Nat.Coprime n.natAbs d.natAbs := by
    have e1 : n.natAbs * n.natAbs = a.num.natAbs := by rw [← Int.natAbs_mul, h2]
    have e2 : d.natAbs * d.natAbs = a.den := by
      have := congrArg Int.natAbs k2
      rw [Int.natAbs_mul, Int.natAbs_natCast] at this
      exact this
    have c0 : Nat.Coprime (n.natAbs * n.natAbs) (d.natAbs * d.natAbs) := by
      rw [e1, e2]
      exact a.reduced
    exact Nat.Coprime.coprime_dvd_left (Nat.dvd_mul_left _ _) (Nat.Coprime.coprime_dvd_right (Nat.dvd_mul_left _ _) c0)
  refine ⟨⟨n, d.natAbs, by omega, c⟩, ⟨Rat.num_nonneg.mp h1, ?_⟩, rfl, by show ((d.natAbs : Nat) : Int) = d; omega⟩
  obtain ⟨a1, a2⟩ := sq_num (⟨n, d.natAbs, by omega, c⟩ : Rat)
  refine Rat.ext (a1.trans h2) ?_
  have e3 : ((d.natAbs : Nat) : Int) * ((d.natAbs : Nat) : Int) = d * d := by rw [Int.natAbs_mul_self']
  have : (((⟨n, d.natAbs, by omega, c⟩ : Rat) * ⟨n, d.natAbs, by omega, c⟩).den : Int) = (a.den : Int) := a2.trans (e3.trans k2)
  omega
end EcM
set_option Elab.async false
set_option linter.all false
set_option maxRecDepth 100000
/-! None in a list of tuples and None -/
namespace L2
open PySem PySem.Spec PyProof.Rows
def NoneT (K : PySem.W.Frag) (H : Hp) (z : V) : Prop := z = .non ∨ ∃ a xs, z = .ref a ∧ SqT K H a xs
theorem noneT_is {z : V} {u : Value} {K : PySem.W.Frag} {H : Hp} (r : RelV z u) (f : NoneT K H z) : PySem.Numpy.isNone u = isNon z := by
  rcases f with rfl | ⟨a, xs, rfl, _⟩
  · cases r; rfl
  · cases r; rfl
theorem anyT {K : PySem.W.Frag} {H : Hp} : ∀ {xs : List V} {us : List Value}, Vals xs us → (∀ z ∈ xs, NoneT K H z) → us.any PySem.Numpy.isNone = xs.any isNon
  | _, _, .nil, _ => rfl
  | y :: xs, u :: us, .cons r t, f => by
    rw [List.any_cons, List.any_cons, noneT_is r (f y (List.mem_cons_self ..)), anyT t fun z hz => f z (List.mem_cons_of_mem _ hz)]
section
variable {X : Cx}
theorem noneT_eq {A : Around} {pins : List (Addr × Obj)} {σ : St} {H : Hp} {s : Shared} (I : Inv X pins σ H s) (hu : A.units < cLine) {z : V} {u : Value} (r : RelV z u) (f : NoneT X.K H z) : SeqAt.EqAt A s u .none (PySem.Numpy.isNone u) := by
  rcases f with rfl | ⟨a, xs, rfl, ha⟩
  · cases r
    exact SeqAt.EqAt.same _
  · cases r
    obtain ⟨its, rv, ⟨o, ho, hc, n, hd⟩, _⟩ := I.tuple ha
    exact SeqAt.EqAt.tuple_none ⟨o, ho, hc, n, hd⟩ hu
theorem memT {A : Around} {pins : List (Addr × Obj)} {σ : St} {H : Hp} {s : Shared} (I : Inv X pins σ H s) (hu : A.units < cLine) : ∀ {xs : List V} {us : List Value}, Vals xs us → (∀ z ∈ xs, NoneT X.K H z) → ∀ u ∈ us, SeqAt.EqAt A s u .none (PySem.Numpy.isNone u)
  | _, _, .nil, _ => fun u hu' => by cases hu'
  | y :: xs, u :: us, .cons r t, f => fun u' hu' => by
    rcases List.mem_cons.mp hu' with e | hu'
    · subst e
      exact noneT_eq I hu r (f y (List.mem_cons_self ..))
    · exact memT I hu t (fun z hz => f z (List.mem_cons_of_mem _ hz)) u' hu'
def rNoneInT (K : PySem.W.Frag) : R2 := fun x y H Q => ∃ p xs, x = .non ∧ y = .ref p ∧ SqL K H p xs ∧ (∀ z ∈ xs, NoneT K H z) ∧ Q (.bl (xs.any isNon)) H
theorem op_noneInT (hu : X.A.units + 64 < cLine) : OpR X (compareOp .In) (rNoneInT X.K) := by
  intro pins s σ H x y v u Q I rx ry h
  obtain ⟨p, xs, rfl, rfl, hq, f, q⟩ := h
  cases rx
  cases ry
  obtain ⟨its, rv, hl, _⟩ := I.list hq
  have hu1 : X.A.in1.units < cLine := by show X.A.units + 1 < cLine; omega
  refine SeqAt.in_listAt PySem.Numpy.isNone hl.isList (fun z hz => memT I hu1 rv f z (by simpa using hz)) ⟨.bl _, H, I, rfl, ?_⟩
  rw [show its.toArray.any PySem.Numpy.isNone = its.any PySem.Numpy.isNone by simp, anyT rv f]
  exact q
end
end L2
set_option Elab.async false
set_option linter.all false
set_option maxRecDepth 100000
set_option maxHeartbeats 4000000
namespace EcP
open PySem PySem.Spec PyProof.Rows L2 Gd QM EcM
/-! ### points as they stand -/
def PtT (K : PySem.W.Frag) (H : Hp) (p : Addr) : Pt → Prop
  | none => SqT K H p []
  | some (x, y) => ∃ a b, SqT K H p [.ref a, .ref b] ∧ SqT K H a (fq x) ∧ SqT K H b (fq y)
theorem PtT.same {K : PySem.W.Frag} {H H' : Hp} {p : Addr} {P : Pt} (h : PtT K H p P) (s : Same H H') : PtT K H' p P := by
  match P, h with
  | none, h => exact Same.tup s h
  | some (x, y), ⟨a, b, h1, h2, h3⟩ => exact ⟨a, b, Same.tup s h1, Same.tup s h2, Same.tup s h3⟩
theorem dp0 {K : PySem.W.Frag} {H : Hp} {t : Addr} (h : SqT K H t []) : Dp K H (.ref t) (.tuple []) := .tup h .nil
theorem eq00 : PyData.eqv (.tuple []) (.tuple []) = true := rfl
def dP : Pt → PyData
  | none => .tuple []
  | some (x, y) => .tuple [dq x, dq y]
theorem dp_pt {K : PySem.W.Frag} {H : Hp} {p : Addr} {P : Pt} (h : PtT K H p P) : Dp K H (.ref p) (dP P) := by
  match P, h with
  | none, h => exact dp0 h
  | some (x, y), ⟨a, b, h1, h2, h3⟩ => exact .tup h1 (.cons (dp_q h2) (.cons (dp_q h3) .nil))
theorem sh_q (a : Rat) : SeqAt.shaped (dq a) = true := rfl
theorem sh_P (P : Pt) : SeqAt.shaped (dP P) = true := by
  match P with
  | none => rfl
  | some (x, y) => rfl
theorem eqv_q2 (a b c d : Int) : PyData.eqv (.tuple [.int a, .int b]) (.tuple [.int c, .int d]) = (decide (a = c) && decide (b = d)) := by
  rw [Bool.eq_iff_iff]
  simp [PyData.eqv, PyData.eqvAll]
theorem eqv_q (a b : Rat) : PyData.eqv (dq a) (dq b) = decide (a = b) := by
  unfold dq
  rw [eqv_q2, Bool.eq_iff_iff, Bool.and_eq_true, decide_eq_true_iff, decide_eq_true_iff, decide_eq_true_iff]
  constructor
  · rintro ⟨h1, h2⟩
    exact Rat.ext h1 (by omega)
  · rintro rfl
    exact ⟨rfl, rfl⟩
theorem eqv_two (a b c d : PyData) : PyData.eqv (.tuple [a, b]) (.tuple [c, d]) = (PyData.eqv a c && PyData.eqv b d) := by
  rw [Bool.eq_iff_iff]
  simp [PyData.eqv, PyData.eqvAll]
theorem eqv_P (P Q : Pt) : PyData.eqv (dP P) (dP Q) = decide (P = Q) := by
  match P, Q with
  | none, none => rfl
  | none, some (x, y) => rfl
  | some (x, y), none => rfl
  | some (x, y), some (u, v) =>
    show PyData.eqv (.tuple [dq x, dq y]) (.tuple [dq u, dq v]) = _
    rw [eqv_two, eqv_q, eqv_q, Bool.eq_iff_iff, Bool.and_eq_true, decide_eq_true_iff, decide_eq_true_iff, decide_eq_true_iff]
    constructor
    · rintro ⟨rfl, rfl⟩
      rfl
    · intro h
      obtain ⟨rfl, rfl⟩ := Prod.mk.inj (Option.some.inj h)
      exact ⟨rfl, rfl⟩
theorem eqv_P0 (P : Pt) : PyData.eqv (dP P) (.tuple []) = decide (P = none) := eqv_P P none
theorem ix_tupK {X : Cx} {K : PySem.W.Frag} (h : X.K = K) : IxR X (rIxT K) := h ▸ ix_tup
theorem op_eqDK {X : Cx} {K : PySem.W.Frag} (h : X.K = K) (hu : X.A.units + 64 < cLine) : OpR X (compareOp .Eq) (rEqD K) := h ▸ op_eqD hu
/-! ### a concord -/
abbrev C3 := Rat × Rat × Rat
def comb : Option Rat → Option Rat → Option Rat → Option C3
  | some a, some b, some c => some (a, b, c)
  | _, _, _ => none
def Con (m n : Int) : Pt → Option C3 → Prop
  | none, o => o = none
  | some (x, _), o => (x = 0 ∧ o = none) ∨ (x ≠ 0 ∧ ∃ r0 r1 r2, SqQ x r0 ∧ SqQ (x + (m : Rat)) r1 ∧ SqQ (x + (n : Rat)) r2 ∧ o = comb r0 r1 r2)
theorem Con.uniq {m n : Int} {P : Pt} {o p : Option C3} (h : Con m n P o) (k : Con m n P p) : o = p := by
  match P, h, k with
  | none, h, k => exact h.trans k.symm
  | some (x, y), h, k =>
    rcases h with ⟨h0, rfl⟩ | ⟨h0, r0, r1, r2, a0, a1, a2, rfl⟩ <;> rcases k with ⟨k0, rfl⟩ | ⟨k0, s0, s1, s2, b0, b1, b2, rfl⟩
    · rfl
    · exact absurd h0 k0
    · exact absurd k0 h0
    · rw [a0.uniq b0, a1.uniq b1, a2.uniq b2]
def TrT (K : PySem.W.Frag) (H : Hp) (p : Addr) (c : C3) : Prop := ∃ a b d, SqT K H p [.ref a, .ref b, .ref d] ∧ SqT K H a (fq c.1) ∧ SqT K H b (fq c.2.1) ∧ SqT K H d (fq c.2.2)
theorem TrT.same {K : PySem.W.Frag} {H H' : Hp} {p : Addr} {c : C3} (h : TrT K H p c) (s : Same H H') : TrT K H' p c := by
  obtain ⟨a, b, d, h1, h2, h3, h4⟩ := h
  exact ⟨a, b, d, Same.tup s h1, Same.tup s h2, Same.tup s h3, Same.tup s h4⟩
def TrO (K : PySem.W.Frag) (H : Hp) (v : V) : Option C3 → Prop
  | none => v = .non
  | some c => ∃ p, v = .ref p ∧ TrT K H p c
theorem TrO.same {K : PySem.W.Frag} {H H' : Hp} {v : V} {c : Option C3} (h : TrO K H v c) (s : Same H H') : TrO K H' v c := by
  match c, h with
  | none, h => exact h
  | some c, ⟨p, h1, h2⟩ => exact ⟨p, h1, h2.same s⟩
/-- a root as it stands -/
def RtO (H : Hp) (v : V) : Option Rat → Prop
  | none => v = .non
  | some r => ∃ a, v = .ref a ∧ H a = some (.tup (fq r))
theorem RtO.same {H H' : Hp} {v : V} {o : Option Rat} (h : RtO H v o) (s : Same H H') : RtO H' v o := by
  match o, h with
  | none, h => exact h
  | some c, ⟨p, h1, h2⟩ => exact ⟨p, h1, s _ _ h2⟩
theorem RtO.put {H : Hp} {D : Addr} {l : List V} {o : HO} {v : V} {c : Option Rat} (h : RtO H v c) (hD : H D = some (.lst l)) : RtO (upd H D o) v c := by
  match c, h with
  | none, h => exact h
  | some c, ⟨p, h1, h2⟩ =>
    refine ⟨p, h1, ?_⟩
    rw [upd_ne (ne_of h2 hD (by intro z; cases z))]
    exact h2
theorem RtO.nt {K : PySem.W.Frag} {H : Hp} {v : V} {o : Option Rat} (h : RtO H v o) : NoneT K H v := by
  match o, h with
  | none, h => exact .inl h
  | some c, ⟨p, h1, h2⟩ => exact .inr ⟨p, _, h1, tup_of h2⟩
theorem RtO.isn {H : Hp} {v : V} {o : Option Rat} (h : RtO H v o) : isNon v = o.isNone := by
  match o, h with
  | none, h =>
    rw [show v = .non from h]
    rfl
  | some c, ⟨p, h1, h2⟩ =>
    rw [h1]
    rfl
/-- the list of roots that is being made -/
def RtD (H : Hp) (D : Addr) (x : Rat) (ks : List Int) (i : Nat) : Prop := ∃ L : List V, H D = some (.lst L) ∧ L.length = i ∧ ∀ (j : Nat) (k : Int) (v : V), ks[j]? = some k → L[j]? = some v → ∃ o, SqQ (x + (k : Rat)) o ∧ RtO H v o
theorem RtD.new {H : Hp} {D : Addr} {x : Rat} {ks : List Int} : RtD (upd H D (.lst [])) D x ks 0 := ⟨[], upd_same, rfl, fun j k v _ h => by simp at h⟩
theorem RtD.push {H H' : Hp} {D : Addr} {x : Rat} {ks : List Int} {i : Nat} {k : Int} {v : V} {o : Option Rat} (h : RtD H D x ks i) (s : Same H H') (hk : ks[i]? = some k) (hq : SqQ (x + (k : Rat)) o) (hv : RtO H' v o) (hi : i < 1000) :
    ∃ acc, H' D = some (.lst acc) ∧ acc.length < sizeLine ∧ RtD (upd H' D (.lst (acc ++ [v]))) D x ks (i + 1) := by
  obtain ⟨L, h1, h2, h3⟩ := h
  have h1' := s _ _ h1
  refine ⟨L, h1', small1000 (by omega), L ++ [v], upd_same, by rw [List.length_append, h2]; rfl, fun j k' v' hk' hj => ?_⟩
  rcases Nat.lt_or_ge j L.length with z | z
  · rw [List.getElem?_append_left z] at hj
    obtain ⟨o', q1, q2⟩ := h3 j k' v' hk' hj
    exact ⟨o', q1, (q2.same s).put h1'⟩
  · rw [List.getElem?_append_right z] at hj
    have ej : j - L.length = 0 := by
      rcases Nat.eq_zero_or_pos (j - L.length) with q | q
      · exact q
      · rw [List.getElem?_eq_none (by simp; omega)] at hj
        cases hj
    rw [ej] at hj
    obtain rfl := Option.some.inj hj
    have e2 : j = i := by omega
    subst e2
    rw [hk] at hk'
    obtain rfl := Option.some.inj hk'
    exact ⟨o, hq, hv.put h1'⟩
theorem RtD.three {H : Hp} {D : Addr} {x : Rat} {a b c : Int} (h : RtD H D x [a, b, c] 3) : ∃ u v w o p q, H D = some (.lst [u, v, w]) ∧ SqQ (x + (a : Rat)) o ∧ SqQ (x + (b : Rat)) p ∧ SqQ (x + (c : Rat)) q ∧ RtO H u o ∧ RtO H v p ∧ RtO H w q := by
  obtain ⟨L, h1, h2, h3⟩ := h
  match L, h2 with
  | [u, v, w], _ =>
    obtain ⟨o, o1, o2⟩ := h3 0 a u rfl rfl
    obtain ⟨p, p1, p2⟩ := h3 1 b v rfl rfl
    obtain ⟨q, q1, q2⟩ := h3 2 c w rfl rfl
    exact ⟨u, v, w, o, p, q, h1, o1, p1, q1, o2, p2, q2⟩
end EcP
set_option Elab.async false
set_option linter.all false
set_option maxRecDepth 100000
set_option maxHeartbeats 4000000
namespace K53
open PySem PySem.Spec PyProof.Rows L2 Gd QM EcM
def topS (i : Nat) : Stmt := PySem.Challenge.pw_pointsum_k53_whole_concords.main.body.getD i (.Pass ⟨0, 0, 0, 0⟩)
/-- what the walk asks of the module's names -/
structure Tx (K : PySem.W.Frag) (mg : Str → Option Value) : Prop where
  gcd : mg "gcd" = some (.builtin "math.gcd")
  isqrt : mg "isqrt" = some (.builtin "math.isqrt")
  int : mg "int" = none
  len : mg "len" = none
  tuple : mg "tuple" = none
  abs : mg "abs" = none
  range : mg "range" = none
  repr : mg "repr" = none
theorem iteN {c A B : Prop} [Decidable c] (h : ¬ c) (b : B) : if c then A else B := by
  rw [if_neg h]
  exact b
theorem iteY {c A B : Prop} [Decidable c] (h : c) (b : A) : if c then A else B := by
  rw [if_pos h]
  exact b
section
variable {P : Program} {w : World} {K : PySem.W.Frag} {mg : Str → Option Value} {base : Heap}
/-! ### power -/
theorem pw_odd (y x : Int) {j : Nat} (h : j % 2 = 1) : y * x ^ j = y * x * (x * x) ^ (j / 2) := by
  have e : j = 2 * (j / 2) + 1 := by omega
  have e2 : x ^ j = x ^ (j / 2) * x ^ (j / 2) * x := by
    calc x ^ j = x ^ (2 * (j / 2) + 1) := by rw [← e]
      _ = _ := by rw [Int.pow_succ, Nat.two_mul, Int.pow_add]
  have e3 : (x * x) ^ (j / 2) = x ^ (j / 2) * x ^ (j / 2) := Int.mul_pow ..
  rw [e2, e3]
  grind
theorem pw_even (y x : Int) {j : Nat} (h : j % 2 = 0) : y * x ^ j = y * (x * x) ^ (j / 2) := by
  have e : j = 2 * (j / 2) := by omega
  have e2 : x ^ j = x ^ (j / 2) * x ^ (j / 2) := by
    calc x ^ j = x ^ (2 * (j / 2)) := by rw [← e]
      _ = _ := by rw [Nat.two_mul, Int.pow_add]
  have e3 : (x * x) ^ (j / 2) = x ^ (j / 2) * x ^ (j / 2) := Int.mul_pow ..
  rw [e2, e3]
def sp_power (K : PySem.W.Frag) : Sp := fun vs H Q _ => ∃ (a e : Int), vs = [.int a, .int e] ∧ 0 ≤ e ∧ e ≤ 8 ∧ B 4000 a ∧ Q (.int (a ^ e.toNat)) H
abbrev s_power : Stmt := topS 2
theorem sc_power : FnScope ["a", "e", "result"] ["a", "e"] (defScope s_power) := ⟨rfl, rfl, rfl, by decide +kernel, rfl, by decide +kernel, by decide +kernel⟩
theorem k_power (T : Tx K mg) (D : Df K mg "power" s_power ["a", "e"])  : Kl P w K mg base 1 "power" (sp_power K) := by
  have nd := sc_power.nd
  refine Kl.by_body D sc_power (fun vs H Q E h => ?_) (fun f cdv A outer s H vs Q E hr h => ?_)
  · obtain ⟨_, _, rfl, _⟩ := h
    rfl
  · obtain ⟨a, e, rfl, h0, h8, ha, q⟩ := h
    have hu1 := hu_of hr
    refine ⟨_, (pss_cons (ps_set (i := 2) nd rfl (by first | exact Or.inl rfl | exact Or.inr rfl) pe_int)
      (pss_cons (ps_while PassesOwn.never (pt_cmpR op_gt (pv 1) pe_int (nomark _)) (C8.pss_cut (ps_if (pt_truth (pe_op op_and (pv 1) pe_int) (fun _ => rfl)) (pss_one (ps_set (i := 2) nd rfl (by first | exact Or.inl rfl | exact Or.inr rfl) (pe_op op_mulW (pv 2) (pv 0)))) pss_nil)
      (pss_cons (ps_set (i := 1) nd rfl (by first | exact Or.inl rfl | exact Or.inr rfl) (pe_op op_shr (pv 1) pe_int))
      (pss_one (ps_if (pt_cmpR op_gt (pv 1) pe_int (nomark _)) (pss_one (ps_set (i := 0) nd rfl (by first | exact Or.inl rfl | exact Or.inr rfl) (pe_op op_mulW (pv 0) (pv 0)))) pss_nil)))))
      (pss_one (ps_ret (pv 2))))), ?_⟩
    refine while_by (fun σ H2 => ∃ (x y : Int) (j i : Nat), σ = [some (.int x), some (.int (j : Int)), some (.int y)] ∧ H2 = H ∧ y * x ^ j = a ^ e.toNat ∧ j * 2 ^ i ≤ 8 ∧ (j ≠ 0 → B (4000 * 2 ^ i) x) ∧ B (4000 * 2 ^ i) y ∧ i ≤ 4)
      (fun σ _ => match σ with | [_, some (.int j), _] => j.toNat | _ => 0) ⟨a, 1, e.toNat, 0, ?_, rfl, Int.one_mul _, by omega, fun _ => ha, B.lit (by decide), by decide⟩ ?_ ?_
    · rw [show ((e.toNat : Nat) : Int) = e by omega]
      rfl
    · rintro σ H2 ⟨x, y, j, i, rfl, rfl, h1, h2, h3, h4, h5⟩
      refine ⟨_, rfl, _, _, rfl, rfl, _, rfl, ?_⟩
      by_cases hj : j = 0
      · subst hj
        refine iteN (by simp) ?_
        refine ⟨_, rfl, ?_⟩
        rw [Int.pow_zero, Int.mul_one] at h1
        rw [h1]
        exact q
      · refine iteY (by simp; omega) ?_
        have hx := h3 hj
        have hi : i ≤ 3 := by
          rcases Nat.lt_or_ge 3 i with z | z
          · have h6 : 1 * 2 ^ 4 ≤ j * 2 ^ i := Nat.mul_le_mul (by omega) (Nat.pow_le_pow_right (by decide) z)
            omega
          · exact z
        have e2 : 4000 * 2 ^ (i + 1) = 4000 * 2 ^ i + 4000 * 2 ^ i := by rw [Nat.pow_succ]; omega
        have hw : 4000 * 2 ^ i ≤ 32000 := by
          have h6 : 2 ^ i ≤ 2 ^ 3 := Nat.pow_le_pow_right (by decide) hi
          omega
        have hd : (j / 2) * 2 ^ (i + 1) ≤ 8 := by
          rw [Nat.pow_succ]
          have h6 : (j / 2) * 2 ≤ j := Nat.div_mul_le_self j 2
          have h7 : (j / 2) * 2 * 2 ^ i ≤ j * 2 ^ i := Nat.mul_le_mul_right _ h6
          calc j / 2 * (2 ^ i * 2) = (j / 2) * 2 * 2 ^ i := by rw [Nat.mul_comm (2 ^ i) 2, Nat.mul_assoc]
            _ ≤ _ := Nat.le_trans h7 h2
        refine ⟨fun σ H3 => H3 = H2 ∧ σ = [some (.int x), some (.int (j : Int)), some (.int (if j % 2 = 1 then y * x else y))], ?_, ?_⟩
        · refine ⟨_, rfl, (j : Int), 1, rfl, rfl, _, rfl, ?_⟩
          rw [bitAnd_m1]
          by_cases hp : j % 2 = 1
          · refine iteY (by simp; omega) ?_
            refine ⟨_, rfl, _, rfl, _, _, rfl, rfl, h4.mulW hx (by omega), rfl, ?_⟩
            rw [if_pos hp]
            rfl
          · refine iteN (by simp; omega) ?_
            refine ⟨rfl, ?_⟩
            rw [if_neg hp]
        · rintro σ H3 ⟨rfl, rfl⟩
          refine ⟨_, rfl, _, _, rfl, rfl, by omega, ?_⟩
          have hy : B (4000 * 2 ^ (i + 1)) (if j % 2 = 1 then y * x else y) := by
            rw [e2]
            split
            · exact h4.mul hx
            · exact h4.up (by omega)
          have hj2 : (j : Int) / 2 ^ (1 : Int).toNat = ((j / 2 : Nat) : Int) := by
            show (j : Int) / 2 = _
            omega
          refine sigN [some (.int x), some (.int ((j / 2 : Nat) : Int)), some (.int (if j % 2 = 1 then y * x else y))] (by rw [← hj2]; rfl) ?_
          refine ⟨_, rfl, _, _, rfl, rfl, _, rfl, ?_⟩
          by_cases hk : j / 2 = 0
          · rw [hk]
            refine iteN (by simp) ?_
            have hj1 : j = 1 := by omega
            subst hj1
            rw [Int.pow_one] at h1
            exact ⟨⟨x, _, 0, i + 1, rfl, rfl, (by rw [Int.pow_zero, Int.mul_one]; exact h1), by omega, fun z => absurd rfl z, hy, by omega⟩, by show (0 : Int).toNat < ((1 : Nat) : Int).toNat; decide⟩
          · refine iteY (by simp; omega) ?_
            refine ⟨_, rfl, _, rfl, _, _, rfl, rfl, hx.mulW hx (by omega), ?_⟩
            refine ⟨⟨x * x, _, j / 2, i + 1, rfl, rfl, ?_, hd, fun _ => ?_, hy, by omega⟩, ?_⟩
            · rw [← h1]
              split
              · rename_i hp
                exact (pw_odd y x hp).symm
              · rename_i hp
                exact (pw_even y x (by omega)).symm
            · rw [e2]
              exact hx.mul hx
            · show ((j / 2 : Nat) : Int).toNat < ((j : Nat) : Int).toNat
              omega
    · rintro σ H2 Q1 Q2 i ⟨v, hv, x, y, e1, e2, k, e, z⟩
      exact ⟨v, hv, x, y, e1, e2, k, e, i _ _ z⟩
/-! ### lowest -/
def sp_lowest : PySem.W.Frag → Sp := spCut
abbrev s_lowest : Stmt := topS 3
theorem sc_lowest : FnScope ["n", "d", "shared"] ["n", "d"] (defScope s_lowest) := ⟨rfl, rfl, rfl, by decide +kernel, rfl, by decide +kernel, by decide +kernel⟩
theorem k_lowest (T : Tx K mg) (D : Df K mg "lowest" s_lowest ["n", "d"])  : Kl P w K mg base 1 "lowest" (sp_lowest K) := by
  have nd := sc_lowest.nd
  refine Kl.by_body D sc_lowest (fun vs H Q E h => ?_) (fun f cdv A outer s H vs Q E hr h => ?_)
  · obtain ⟨_, _, rfl, _⟩ := h
    rfl
  · obtain ⟨n, d, rfl, hd, hn, hb, q⟩ := h
    have hu1 := hu_of hr
    refine ⟨_, (pss_cons (ps_set (i := 2) nd rfl (by first | exact Or.inl rfl | exact Or.inr rfl) (pe_callBfun cr_gcd (by rfl) T.gcd (pa_cons (pv 0) (pa_cons (pv 1) pa_nil))))
      (pss_cons (ps_if (pt_cmpR op_lt (pv 1) pe_int (nomark _)) (pss_one (ps_set (i := 2) nd rfl (by first | exact Or.inl rfl | exact Or.inr rfl) (pe_un un_neg (pv 2)))) pss_nil)
      (pss_one (ps_ret (pe_tup (pa_cons (pe_op op_fdivAny (pv 0) (pv 2)) (pa_cons (pe_op op_fdivAny (pv 1) (pv 2)) pa_nil))))))), ?_⟩
    refine ⟨_, rfl, _, rfl, n, d, rfl, ?_⟩
    have h1 : sg n d ≠ 0 := sg_ne hd
    have h2 : CDivAny n (sg n d) := div_any h1 (sg_B hd hb) (by decide)
    have h3 : CDivAny d (sg n d) := div_any h1 (sg_B hd hb) (by decide)
    refine ⟨_, rfl, d, 0, rfl, rfl, _, rfl, ite2 (fun e => ?_) (fun e => ?_)⟩
    · have e' : d < 0 := of_decide_eq_true e
      have es : sg n d = -((Nat.gcd n.natAbs d.natAbs : Nat) : Int) := if_pos e'
      refine ⟨_, rfl, _, rfl, ?_⟩
      refine ⟨_, rfl, _, rfl, n, _, rfl, rfl, es ▸ h2, _, rfl, _, rfl, d, _, rfl, rfl, es ▸ h3, (by show 2 ≤ sizeLine; decide), fun t nt => ?_⟩
      rw [← fq_div hd, es] at q
      exact q t nt
    · have e' : ¬ d < 0 := fun z => e (decide_eq_true z)
      have es : sg n d = ((Nat.gcd n.natAbs d.natAbs : Nat) : Int) := if_neg e'
      refine ⟨_, rfl, _, rfl, n, _, rfl, rfl, es ▸ h2, _, rfl, _, rfl, d, _, rfl, rfl, es ▸ h3, (by show 2 ≤ sizeLine; decide), fun t nt => ?_⟩
      rw [← fq_div hd, es] at q
      exact q t nt
/-! ### root_of, of squares -/
def sp_root_of (K : PySem.W.Frag) : Sp := fun vs H Q _ => ∃ n : Int, vs = [.int n, .int 2] ∧ 0 ≤ n ∧ B 3900 n ∧ ∀ r, 0 ≤ r → r ≤ n → r * r ≤ n → (∀ s, 0 ≤ s → s * s ≤ n → s ≤ r) → Q (.int r) H
abbrev s_root_of : Stmt := topS 4
theorem sc_root_of : FnScope ["n", "k", "r", "better"] ["n", "k"] (defScope s_root_of) := ⟨rfl, rfl, rfl, by decide +kernel, rfl, by decide +kernel, by decide +kernel⟩
theorem k_root_of (T : Tx K mg) (D : Df K mg "root_of" s_root_of ["n", "k"]) (c_power : Kl P w K mg base 1 "power" (sp_power K)) : Kl P w K mg base 2 "root_of" (sp_root_of K) := by
  have nd := sc_root_of.nd
  refine Kl.by_body D sc_root_of (fun vs H Q E h => ?_) (fun f cdv A outer s H vs Q E hr h => ?_)
  · obtain ⟨_, rfl, _⟩ := h
    rfl
  · obtain ⟨n, rfl, h0, hn, q⟩ := h
    have hu1 := hu_of hr
    refine ⟨_, (pss_cons (ps_if (PW.pt (pw_or (pt_cmpR op_lt (pv 0) pe_int (nomark _)) (pw_or1 (pt_cmpR op_eq (pv 1) pe_int (nomark _))))) (pss_one (ps_ret (pv 0))) pss_nil)
      (pss_cons (ps_if (pt_cmpR op_eq (pv 1) pe_int (nomark _)) (pss_one (ps_ret (pe_callBfun cr_isqrt (by rfl) T.isqrt (pa_cons (pv 0) pa_nil)))) pss_nil)
      (pss_cons (ps_set (i := 2) nd rfl (by first | exact Or.inl rfl | exact Or.inr rfl) (pe_op op_shlN pe_int (pe_op op_add (pe_op op_fdivAny (pe_bits (pv 0)) (pv 1)) pe_int)))
      (pss_one (ps_while PassesOwn.never (pt_val pe_bl) (pss_cons (ps_set (i := 3) nd rfl (by first | exact Or.inl rfl | exact Or.inr rfl) (pe_op op_fdivAny (pe_op op_add (pe_op op_mulW (pe_op op_sub (pv 1) pe_int) (pv 2)) (pe_op op_fdivAny (pv 0) (pe_k c_power  hr (by decide) (by rfl) (pa_cons (pv 2) (pa_cons (pe_op op_sub (pv 1) pe_int) pa_nil))))) (pv 1)))
      (pss_cons (ps_if (pt_cmpR op_ge (pv 3) (pv 2) (nomark _)) (pss_one (ps_ret (pv 2))) pss_nil)
      (pss_one (ps_set (i := 2) nd rfl (by first | exact Or.inl rfl | exact Or.inr rfl) (pv 3)))))))))), ?_⟩
    refine ⟨_, rfl, n, 2, rfl, rfl, _, rfl, ?_⟩
    by_cases hn2 : n < 2
    · refine iteY (by simpa using hn2) ?_
      refine ⟨_, rfl, q n h0 (Int.le_refl _) ?_ (fun s hs h => ?_)⟩
      · rcases (show n = 0 ∨ n = 1 by omega) with rfl | rfl <;> decide
      · rcases Int.lt_or_le n s with z | z
        · exfalso
          have h1 := Int.mul_le_mul (show n + 1 ≤ s by omega) (show n + 1 ≤ s by omega) (by omega) hs
          have h2 : (n + 1) * (n + 1) = n * n + 2 * n + 1 := by grind
          have h3 : 0 ≤ n * n := Int.mul_nonneg h0 h0
          omega
        · exact z
    · refine iteN (by simpa using hn2) ?_
      refine ⟨_, rfl, rfl, _, rfl, ?_⟩
      rw [dec_int]
      refine iteN (by decide) ?_
      refine ⟨_, rfl, rfl, _, rfl, ?_⟩
      rw [dec_int]
      refine iteY (by decide) ?_
      obtain ⟨z1, z2⟩ := isqrt_is h0
      have hB4 : n.natAbs < 2 ^ 4000 := hn.up (n := 4000) (by decide)
      refine ⟨_, rfl, n, rfl, h0, hB4, ?_⟩
      generalize ((PySem.Float64.isqrt n.toNat : Nat) : Int) = y at z1 z2
      have hy0 : 0 ≤ y := by
        have := z2 0 (by decide) (by omega)
        omega
      have hyn : y ≤ n := by
        rcases (show y = 0 ∨ 1 ≤ y by omega) with e | e
        · omega
        · have := Int.mul_le_mul_of_nonneg_left e hy0
          omega
      exact q y hy0 hyn z1 z2
/-! ### exact_root, of squares -/
def oV : Option Int → V
  | none => .non
  | some r => .int r
def sp_exact_root (K : PySem.W.Frag) : Sp := fun vs H Q _ => ∃ n : Int, vs = [.int n, .int 2] ∧ B 3900 n ∧ ∀ o, SqR n o → (∀ r, o = some r → B 3900 r) → Q (oV o) H
abbrev s_exact_root : Stmt := topS 5
theorem sc_exact_root : FnScope ["n", "k", "r"] ["n", "k"] (defScope s_exact_root) := ⟨rfl, rfl, rfl, by decide +kernel, rfl, by decide +kernel, by decide +kernel⟩
theorem k_exact_root (T : Tx K mg) (D : Df K mg "exact_root" s_exact_root ["n", "k"]) (c_root_of : Kl P w K mg base 2 "root_of" (sp_root_of K)) (c_power : Kl P w K mg base 1 "power" (sp_power K)) : Kl P w K mg base 3 "exact_root" (sp_exact_root K) := by
  have nd := sc_exact_root.nd
  refine Kl.by_body D sc_exact_root (fun vs H Q E h => ?_) (fun f cdv A outer s H vs Q E hr h => ?_)
  · obtain ⟨_, rfl, _⟩ := h
    rfl
  · obtain ⟨n, rfl, hn, q⟩ := h
    have c_exact_root : Kl P w K mg base (0 + 1) "exact_root" (fun _ _ _ _ => False) := Kl.by_body D sc_exact_root (fun _ _ _ _ h => h.elim) (fun _ _ _ _ _ _ _ _ _ _ h => h.elim)
    have hu1 := hu_of hr
    refine ⟨_, (pss_cons (ps_if (pt_cmpR op_lt (pv 0) pe_int (nomark _)) (pss_cons (ps_if (pt_cmpR op_eq (pe_op op_mod (pv 1) pe_int) pe_int (nomark _)) (pss_one (ps_ret pe_non)) pss_nil)
      (pss_cons (ps_set (i := 2) nd rfl (by first | exact Or.inl rfl | exact Or.inr rfl) (pe_k c_exact_root  hr (by decide) (by rfl) (pa_cons (pe_un un_neg (pv 0)) (pa_cons (pv 1) pa_nil))))
      (pss_one (ps_ret (pe_ifExp (pt_cmpR op_isN (pv 2) pe_non (nomark _)) pe_non (pe_un un_neg (pv 2))))))) pss_nil)
      (pss_cons (ps_set (i := 2) nd rfl (by first | exact Or.inl rfl | exact Or.inr rfl) (pe_k c_root_of  hr (by decide) (by rfl) (pa_cons (pv 0) (pa_cons (pv 1) pa_nil))))
      (pss_one (ps_ret (pe_ifExp (pt_cmpR op_eq (pe_k c_power  hr (by decide) (by rfl) (pa_cons (pv 2) (pa_cons (pv 1) pa_nil))) (pv 0) (nomark _)) (pv 2) pe_non))))), ?_⟩
    refine ⟨_, rfl, n, 0, rfl, rfl, _, rfl, ?_⟩
    by_cases hn0 : n < 0
    · refine iteY (by simpa using hn0) ?_
      refine ⟨_, rfl, _, _, rfl, rfl, (by show (0 : Int) < 2; decide), rfl, _, rfl, ?_⟩
      rw [dec_int]
      refine iteY (by decide) ?_
      exact q none (fun r z => by have := sq0 r; omega) (fun r z => by cases z)
    · refine iteN (by simpa using hn0) ?_
      refine ⟨_, rfl, _, rfl, n, rfl, by omega, hn, fun y y0 yn yle ymax => ?_⟩
      have yB : B 3900 y := by
        unfold B at hn ⊢
        omega
      refine ⟨_, rfl, _, rfl, y, 2, rfl, by decide, by decide, yB.up (by decide), _, rfl, rfl, _, rfl, ?_⟩
      rw [dec_int]
      have e : y ^ (2 : Int).toNat = y * y := by
        show y ^ 2 = y * y
        rw [Int.pow_succ, Int.pow_succ, Int.pow_zero, Int.one_mul]
      rw [e]
      by_cases he : y * y = n
      · refine iteY (by simpa using he) ?_
        exact ⟨_, rfl, q (some y) ⟨y0, he⟩ (fun r z => by cases z; exact yB)⟩
      · refine iteN (by simpa using he) ?_
        exact q none (fun r z => he (sq_max y0 yle ymax z)) (fun r z => by cases z)
/-! ### the sums -/
def sp_plus : PySem.W.Frag → Sp := spBin (fun a b => True) (fun a b => a + b)
abbrev s_plus : Stmt := topS 7
theorem sc_plus : FnScope ["f", "g"] ["f", "g"] (defScope s_plus) := ⟨rfl, rfl, rfl, by decide +kernel, rfl, by decide +kernel, by decide +kernel⟩
theorem k_plus (T : Tx K mg) (D : Df K mg "plus" s_plus ["f", "g"]) (c_lowest : Kl P w K mg base 1 "lowest" (sp_lowest K)) : Kl P w K mg base 2 "plus" (sp_plus K) := by
  have nd := sc_plus.nd
  refine Kl.by_body D sc_plus (fun vs H Q E h => ?_) (fun f cdv A outer s H vs Q E hr h => ?_)
  · obtain ⟨_, _, _, _, rfl, _⟩ := h
    rfl
  · obtain ⟨f, g, a, b, rfl, hf, hg, ha, hb, h0, q⟩ := h
    have hu1 := hu_of hr
    refine ⟨_, (pss_one (ps_ret (pe_k c_lowest  hr (by decide) (by rfl) (pa_cons (pe_op op_add (pe_op op_mulW (pe_ix ix_tup (pv 0) pe_int (fun _ _ => rfl)) (pe_ix ix_tup (pv 1) pe_int (fun _ _ => rfl))) (pe_op op_mulW (pe_ix ix_tup (pv 1) pe_int (fun _ _ => rfl)) (pe_ix ix_tup (pv 0) pe_int (fun _ _ => rfl)))) (pa_cons (pe_op op_mulW (pe_ix ix_tup (pv 0) pe_int (fun _ _ => rfl)) (pe_ix ix_tup (pv 1) pe_int (fun _ _ => rfl))) pa_nil))))), ?_⟩
    refine ⟨.ref f, rfl, f, _, 0, .int a.num, rfl, rfl, hf, rfl, .ref g, rfl, g, _, 1, .int b.den, rfl, rfl, hg, rfl, _, _, rfl, rfl, (B.mulW ha.n hb.d (by decide)), .ref g, rfl, g, _, 0, .int b.num, rfl, rfl, hg, rfl, .ref f, rfl, f, _, 1, .int a.den, rfl, rfl, hf, rfl, _, _, rfl, rfl, (B.mulW hb.n ha.d (by decide)), _, _, rfl, rfl, .ref f, rfl, f, _, 1, .int a.den, rfl, rfl, hf, rfl, .ref g, rfl, g, _, 1, .int b.den, rfl, rfl, hg, rfl, _, _, rfl, rfl, (B.mulW ha.d hb.d (by decide)), _, _, rfl, (mul_ne (den_ne a) (den_ne b)), ((B.mul ha.n hb.d).add (B.mul hb.n ha.d)).up (by decide), (B.mul ha.d hb.d).up (by decide), fun t nt => ?_⟩
    rw [fr_add a b]
    exact q t nt
def sp_less : PySem.W.Frag → Sp := spBin (fun a b => True) (fun a b => a - b)
abbrev s_less : Stmt := topS 8
theorem sc_less : FnScope ["f", "g"] ["f", "g"] (defScope s_less) := ⟨rfl, rfl, rfl, by decide +kernel, rfl, by decide +kernel, by decide +kernel⟩
theorem k_less (T : Tx K mg) (D : Df K mg "less" s_less ["f", "g"]) (c_lowest : Kl P w K mg base 1 "lowest" (sp_lowest K)) : Kl P w K mg base 2 "less" (sp_less K) := by
  have nd := sc_less.nd
  refine Kl.by_body D sc_less (fun vs H Q E h => ?_) (fun f cdv A outer s H vs Q E hr h => ?_)
  · obtain ⟨_, _, _, _, rfl, _⟩ := h
    rfl
  · obtain ⟨f, g, a, b, rfl, hf, hg, ha, hb, h0, q⟩ := h
    have hu1 := hu_of hr
    refine ⟨_, (pss_one (ps_ret (pe_k c_lowest  hr (by decide) (by rfl) (pa_cons (pe_op op_sub (pe_op op_mulW (pe_ix ix_tup (pv 0) pe_int (fun _ _ => rfl)) (pe_ix ix_tup (pv 1) pe_int (fun _ _ => rfl))) (pe_op op_mulW (pe_ix ix_tup (pv 1) pe_int (fun _ _ => rfl)) (pe_ix ix_tup (pv 0) pe_int (fun _ _ => rfl)))) (pa_cons (pe_op op_mulW (pe_ix ix_tup (pv 0) pe_int (fun _ _ => rfl)) (pe_ix ix_tup (pv 1) pe_int (fun _ _ => rfl))) pa_nil))))), ?_⟩
    refine ⟨.ref f, rfl, f, _, 0, .int a.num, rfl, rfl, hf, rfl, .ref g, rfl, g, _, 1, .int b.den, rfl, rfl, hg, rfl, _, _, rfl, rfl, (B.mulW ha.n hb.d (by decide)), .ref g, rfl, g, _, 0, .int b.num, rfl, rfl, hg, rfl, .ref f, rfl, f, _, 1, .int a.den, rfl, rfl, hf, rfl, _, _, rfl, rfl, (B.mulW hb.n ha.d (by decide)), _, _, rfl, rfl, .ref f, rfl, f, _, 1, .int a.den, rfl, rfl, hf, rfl, .ref g, rfl, g, _, 1, .int b.den, rfl, rfl, hg, rfl, _, _, rfl, rfl, (B.mulW ha.d hb.d (by decide)), _, _, rfl, (mul_ne (den_ne a) (den_ne b)), ((B.mul ha.n hb.d).sub (B.mul hb.n ha.d)).up (by decide), (B.mul ha.d hb.d).up (by decide), fun t nt => ?_⟩
    rw [fr_sub a b]
    exact q t nt
def sp_times : PySem.W.Frag → Sp := spBin (fun a b => True) (fun a b => a * b)
abbrev s_times : Stmt := topS 9
theorem sc_times : FnScope ["f", "g"] ["f", "g"] (defScope s_times) := ⟨rfl, rfl, rfl, by decide +kernel, rfl, by decide +kernel, by decide +kernel⟩
theorem k_times (T : Tx K mg) (D : Df K mg "times" s_times ["f", "g"]) (c_lowest : Kl P w K mg base 1 "lowest" (sp_lowest K)) : Kl P w K mg base 2 "times" (sp_times K) := by
  have nd := sc_times.nd
  refine Kl.by_body D sc_times (fun vs H Q E h => ?_) (fun f cdv A outer s H vs Q E hr h => ?_)
  · obtain ⟨_, _, _, _, rfl, _⟩ := h
    rfl
  · obtain ⟨f, g, a, b, rfl, hf, hg, ha, hb, h0, q⟩ := h
    have hu1 := hu_of hr
    refine ⟨_, (pss_one (ps_ret (pe_k c_lowest  hr (by decide) (by rfl) (pa_cons (pe_op op_mulW (pe_ix ix_tup (pv 0) pe_int (fun _ _ => rfl)) (pe_ix ix_tup (pv 1) pe_int (fun _ _ => rfl))) (pa_cons (pe_op op_mulW (pe_ix ix_tup (pv 0) pe_int (fun _ _ => rfl)) (pe_ix ix_tup (pv 1) pe_int (fun _ _ => rfl))) pa_nil))))), ?_⟩
    refine ⟨.ref f, rfl, f, _, 0, .int a.num, rfl, rfl, hf, rfl, .ref g, rfl, g, _, 0, .int b.num, rfl, rfl, hg, rfl, _, _, rfl, rfl, (B.mulW ha.n hb.n (by decide)), .ref f, rfl, f, _, 1, .int a.den, rfl, rfl, hf, rfl, .ref g, rfl, g, _, 1, .int b.den, rfl, rfl, hg, rfl, _, _, rfl, rfl, (B.mulW ha.d hb.d (by decide)), _, _, rfl, (mul_ne (den_ne a) (den_ne b)), (B.mul ha.n hb.n).up (by decide), (B.mul ha.d hb.d).up (by decide), fun t nt => ?_⟩
    rw [fr_mul a b]
    exact q t nt
/-! ### product -/
theorem foldl_take (op : Rat → Rat → Rat) (e : Rat) (ps : List (Addr × Rat)) {i : Nat} {p : Addr × Rat} (h : ps[i]? = some p) : (ps.take (i + 1)).foldl (fun x p => op x p.2) e = op ((ps.take i).foldl (fun x p => op x p.2) e) p.2 := by
  rw [List.take_succ, List.foldl_append, h]
  rfl
theorem map_get {ps : List (Addr × Rat)} {i : Nat} {x : V} (h : (ps.map fun p => V.ref p.1)[i]? = some x) : ∃ p, ps[i]? = some p ∧ x = .ref p.1 := by
  rw [List.getElem?_map] at h
  cases e : ps[i]? with
  | none =>
    rw [e] at h
    cases h
  | some p =>
    rw [e] at h
    exact ⟨p, rfl, (Option.some.inj h).symm⟩
theorem q1 : [V.int 1, V.int 1] = fq 1 := rfl
theorem _root_.QM.RB.zero : RB 1 (0 : Rat) := ⟨by decide, by decide⟩
theorem _root_.QM.RB.one : RB 1 (1 : Rat) := ⟨by decide, by decide⟩
def sp_product : PySem.W.Frag → Sp := spSum (· * ·) 1
abbrev s_product : Stmt := topS 10
theorem sc_product : FnScope ["fractions", "result", "f"] ["fractions"] (defScope s_product) := ⟨rfl, rfl, rfl, by decide +kernel, rfl, by decide +kernel, by decide +kernel⟩
theorem k_product (T : Tx K mg) (D : Df K mg "product" s_product ["fractions"]) (c_times : Kl P w K mg base 2 "times" (sp_times K)) : Kl P w K mg base 3 "product" (sp_product K) := by
  have nd := sc_product.nd
  refine Kl.by_body D sc_product (fun vs H Q E h => ?_) (fun f cdv A outer s H vs Q E hr h => ?_)
  · obtain ⟨_, _, _, rfl, _⟩ := h
    rfl
  · obtain ⟨l, ps, m, rfl, hx, hp, hl, q⟩ := h
    have hu1 := hu_of hr
    refine ⟨_, (pss_cons (ps_set (i := 1) nd rfl (by first | exact Or.inl rfl | exact Or.inr rfl) (pe_tup (pa_cons pe_int (pa_cons pe_int pa_nil))))
      (pss_cons (ps_for PassesOwn.never rfl (pi_list (pv 0)) (pg_name (i := 2) nd rfl (by first | exact Or.inl rfl | exact Or.inr rfl)) (pss_one (ps_set (i := 1) nd rfl (by first | exact Or.inl rfl | exact Or.inr rfl) (pe_k c_times  hr (by decide) (by rfl) (pa_cons (pv 1) (pa_cons (pv 2) pa_nil))))))
      (pss_one (ps_ret (pv 1))))), ?_⟩
    refine ⟨(by show 2 ≤ sizeLine; decide), fun r nr => ?_⟩
    rw [q1]
    have s1 := Same.new (H := H) (p := r) (o := .tup (fq 1)) nr
    have g1 : upd H r (.tup (fq 1)) r = some (.tup (fq 1)) := upd_same
    generalize upd H r (.tup (fq 1)) = H1 at s1 g1 ⊢
    refine ⟨_, rfl, l, rfl, ⟨_, s1.seq hx⟩, for_list (K := K) (a := l) (xs := ps.map fun p => .ref p.1) (fun i σ H2 => Same H H2 ∧ ∃ (r : Addr) (v : Option V), σ = [some (.ref l), some (.ref r), v] ∧ H r = none ∧ H2 r = some (.tup (fq ((ps.take i).foldl (fun x p => x * p.2) 1))) ∧ RB (i * (m + 1) + 1) ((ps.take i).foldl (fun x p => x * p.2) 1)) ⟨s1, r, none, rfl, nr, g1, RB.one.up (by omega)⟩ (fun i σ H2 _ z => z.1.seq hx) ?_ ?_⟩
    · rintro i x σ H2 hi ⟨s2, r2, v, rfl, n2, g2, b2⟩
      obtain ⟨p, hpi, rfl⟩ := map_get hi
      obtain ⟨h1, h2⟩ := hp p (List.mem_of_getElem? hpi)
      have hi2 : i < ps.length := (List.getElem?_eq_some_iff.mp hpi).1
      have hsz : (i + 1) * (m + 1) ≤ 3900 := Nat.le_trans (Nat.mul_le_mul_right _ hi2) hl
      rw [Nat.add_mul, Nat.one_mul] at hsz
      refine ⟨_, rfl, _, rfl, r2, p.1, _, _, rfl, tup_of g2, Same.tup s2 h1, b2.up (by omega), h2.up (by omega), trivial, fun t nt => ?_⟩
      refine ⟨Same.put s2 (s2.free nt), t, _, rfl, s2.free nt, ?_, ?_⟩
      · rw [upd_same, foldl_take _ _ _ hpi]
      · rw [foldl_take (fun a b => a * b) 1 _ hpi]
        exact (b2.mul h2).up (by rw [Nat.add_mul]; omega)
    · rintro σ H2 ⟨s2, r2, v, rfl, n2, g2, b2⟩
      rw [List.length_map, List.take_length] at g2
      rw [List.length_map, List.take_length] at b2
      exact ⟨_, rfl, q _ r2 s2 n2 g2 b2⟩
/-! ### root_of_fraction, of squares -/
def sp_root_of_fraction (K : PySem.W.Frag) : Sp := fun vs H Q _ => ∃ (f : Addr) (a : Rat), vs = [.ref f, .int 2] ∧ SqT K H f (fq a) ∧ RB 3900 a ∧ (SqQ a none → Q .non H) ∧ ∀ r t, SqQ a (some r) → RB 3900 r → H t = none → Q (.ref t) (upd H t (.tup (fq r)))
abbrev s_root_of_fraction : Stmt := topS 11
theorem sc_root_of_fraction : FnScope ["f", "k", "n", "d"] ["f", "k"] (defScope s_root_of_fraction) := ⟨rfl, rfl, rfl, by decide +kernel, rfl, by decide +kernel, by decide +kernel⟩
theorem k_root_of_fraction (T : Tx K mg) (D : Df K mg "root_of_fraction" s_root_of_fraction ["f", "k"]) (c_exact_root : Kl P w K mg base 3 "exact_root" (sp_exact_root K)) : Kl P w K mg base 4 "root_of_fraction" (sp_root_of_fraction K) := by
  have nd := sc_root_of_fraction.nd
  refine Kl.by_body D sc_root_of_fraction (fun vs H Q E h => ?_) (fun f cdv A outer s H vs Q E hr h => ?_)
  · obtain ⟨_, _, rfl, _⟩ := h
    rfl
  · obtain ⟨f, a, rfl, hf, ha, qN, qS⟩ := h
    have hu1 := hu_of hr
    refine ⟨_, (pss_cons (ps_par (i := 2) (j := 3) (by rfl) nd rfl rfl (by decide) rfl rfl (pa_cons (pe_k c_exact_root  hr (by decide) (by rfl) (pa_cons (pe_ix ix_tup (pv 0) pe_int (fun _ _ => rfl)) (pa_cons (pv 1) pa_nil))) (pa_cons (pe_k c_exact_root  hr (by decide) (by rfl) (pa_cons (pe_ix ix_tup (pv 0) pe_int (fun _ _ => rfl)) (pa_cons (pv 1) pa_nil))) pa_nil)) (by rfl))
      (pss_one (ps_ret (pe_ifExp (PW.pt (pw_or (pt_cmpR op_isN (pv 2) pe_non (nomark _)) (pw_or1 (pt_cmpR op_isN (pv 3) pe_non (nomark _))))) pe_non (pe_tup (pa_cons (pv 2) (pa_cons (pv 3) pa_nil))))))), ?_⟩
    refine ⟨.ref f, rfl, f, _, 0, .int a.num, rfl, rfl, hf, rfl, _, rfl, a.num, rfl, ha.n, fun o1 h1 b1 => ?_⟩
    refine ⟨.ref f, rfl, f, _, 1, .int (a.den : Int), rfl, rfl, hf, rfl, _, rfl, (a.den : Int), rfl, ha.d, fun o2 h2 b2 => ?_⟩
    refine ⟨_, _, rfl, ?_⟩
    cases o1 with
    | none =>
      refine ⟨_, rfl, rfl, _, rfl, iteT ?_⟩
      exact qN (SqQ.none1 h1)
    | some n =>
      refine ⟨_, rfl, rfl, _, rfl, iteF ?_⟩
      cases o2 with
      | none =>
        refine ⟨_, rfl, rfl, _, rfl, iteT ?_⟩
        exact qN (SqQ.none2 h2)
      | some d =>
        refine ⟨_, rfl, rfl, _, rfl, iteF ?_⟩
        refine ⟨_, rfl, _, rfl, (by show 2 ≤ sizeLine; decide), fun t nt => ?_⟩
        obtain ⟨r, hr1, rfl, rfl⟩ := SqQ.of h1 h2
        exact qS r t hr1 ⟨b1 _ rfl, b2 _ rfl⟩ nt
end
end K53
set_option Elab.async false
set_option linter.all false
set_option maxRecDepth 100000
set_option maxHeartbeats 4000000
namespace K53
open PySem PySem.Spec PyProof.Rows L2 Gd QM EcM
local macro_rules | `(tactic| walk_at "bd") => `(tactic| (repeat (first | assumption | apply B.add | apply B.sub | apply B.mul | apply B.neg | exact B.lit (n := 8) (by decide))))
local macro_rules | `(tactic| walk_at "bu") => `(tactic| (apply B.up; walk_at "bd"; decide))
local macro_rules | `(tactic| walk_at "bnd") => `(tactic| (apply B.mulW; walk_at "bd"; decide))
local macro_rules | `(tactic| walk_at "pw") => `(tactic| exact B.up (n := 64) (by assumption) (by decide))
theorem abs_eq (i : Int) : (if i < 0 then -i else i) = (i.natAbs : Int) := by
  split <;> omega
section
variable {P : Program} {w : World} {K : PySem.W.Frag} {mg : Str → Option Value} {base : Heap}
/-! ### the law's common factor -/
def sp_law_common (K : PySem.W.Frag) : Sp := fun vs H Q _ => ∃ a b : Int, vs = [.int a, .int b] ∧ B 8200 a ∧ B 8200 b ∧ Q (.int ((Nat.gcd a.natAbs b.natAbs : Nat) : Int)) H
theorem gcd_turn {x y : Int} (h1 : 0 ≤ x) (h2 : 0 ≤ y) (h0 : y ≠ 0) : 0 ≤ x - x.fdiv y * y ∧ (x - x.fdiv y * y).natAbs < y.natAbs ∧ Nat.gcd y.natAbs (x - x.fdiv y * y).natAbs = Nat.gcd x.natAbs y.natAbs := by
  have e : x - x.fdiv y * y = x % y := by
    rw [Int.fdiv_eq_ediv_of_nonneg x h2, Int.emod_def, Int.mul_comm]
  have h3 : 0 ≤ x % y := Int.emod_nonneg x h0
  have h4 : x % y < y := Int.emod_lt_of_pos x (by omega)
  rw [e]
  refine ⟨h3, by omega, ?_⟩
  have e2 : (x % y).natAbs = x.natAbs % y.natAbs := by
    rw [Int.natAbs_emod_of_nonneg h1]
  rw [e2, Nat.gcd_comm y.natAbs, ← Nat.gcd_rec y.natAbs x.natAbs, Nat.gcd_comm]
abbrev s__law_common : Stmt := topS 22
theorem sc__law_common : FnScope ["a", "b"] ["a", "b"] (defScope s__law_common) := ⟨rfl, rfl, rfl, by decide +kernel, rfl, by decide +kernel, by decide +kernel⟩
theorem k_law_common (T : Tx K mg) (D : Df K mg "_law_common" s__law_common ["a", "b"])  : Kl P w K mg base 1 "_law_common" (sp_law_common K) := by
  have nd := sc__law_common.nd
  refine Kl.by_body D sc__law_common (fun vs H Q E h => ?_) (fun f cdv A outer s H vs Q E hr h => ?_)
  · obtain ⟨_, _, rfl, _⟩ := h
    rfl
  · obtain ⟨a, b, rfl, ha, hb, q⟩ := h
    have hu1 := hu_of hr
    refine ⟨_, (pss_cons (ps_par (i := 0) (j := 1) (by rfl) nd rfl rfl (by decide) rfl rfl (pa_cons (pe_callB call_abs (by rfl) T.abs (by decide +kernel) (pa_cons (pv 0) pa_nil)) (pa_cons (pe_callB call_abs (by rfl) T.abs (by decide +kernel) (pa_cons (pv 1) pa_nil)) pa_nil)) (by rfl))
      (pss_cons (ps_while PassesOwn.never (pt_cmpR op_ne (pv 1) pe_int (nomark _)) (pss_one (ps_par (i := 0) (j := 1) (by rfl) nd rfl rfl (by decide) rfl rfl (pa_cons (pv 1) (pa_cons (pe_op op_sub (pv 0) (pe_op op_mulW (pe_op op_fdivAny (pv 0) (pv 1)) (pv 1))) pa_nil)) (by rfl))))
      (pss_one (ps_ret (pv 0))))), ?_⟩
    refine ⟨_, rfl, a, rfl, _, rfl, b, rfl, _, _, rfl, ?_⟩
    rw [abs_eq, abs_eq]
    first | refine sigN [some (.int ((a.natAbs : Int))), some (.int ((b.natAbs : Int)))] (by rfl) ?_ | refine sig [some (.int ((a.natAbs : Int))), some (.int ((b.natAbs : Int)))] (by rfl) ?_
    have na : B 8200 (a.natAbs : Int) := by
      unfold B at *
      omega
    have nb : B 8200 (b.natAbs : Int) := by
      unfold B at *
      omega
    refine while_by (fun σ H2 => ∃ x y : Int, σ = [some (.int x), some (.int y)] ∧ H2 = H ∧ 0 ≤ x ∧ 0 ≤ y ∧ Nat.gcd x.natAbs y.natAbs = Nat.gcd a.natAbs b.natAbs ∧ B 8200 x ∧ B 8200 y)
      (fun σ _ => match σ with | [_, some (.int y)] => y.natAbs | _ => 0) ⟨_, _, rfl, rfl, by omega, by omega, by rw [Int.natAbs_natCast, Int.natAbs_natCast], na, nb⟩ ?_ ?_
    · rintro σ H2 ⟨x, y, rfl, rfl, h1, h2, h3, h4, h5⟩
      refine ⟨_, rfl, rfl, _, rfl, ?_⟩
      rw [dec_int]
      by_cases h0 : y = 0
      · subst h0
        refine iteN (by simp) ?_
        refine ⟨_, rfl, ?_⟩
        rw [← h3] at q
        have e : ((Nat.gcd x.natAbs (0 : Int).natAbs : Nat) : Int) = x := by
          rw [show (0 : Int).natAbs = 0 from rfl, Nat.gcd_zero_right]
          omega
        rw [e] at q
        exact q
      · refine iteY (by simp [h0]) ?_
        obtain ⟨g1, g2, g3⟩ := gcd_turn h1 h2 h0
        have d1 : B 8200 (x.fdiv y) := by
          rw [Int.fdiv_eq_ediv_of_nonneg x h2]
          have e1 : 0 ≤ x / y := Int.ediv_nonneg h1 h2
          have e2 : x / y ≤ x := Int.ediv_le_self y h1
          unfold B at *
          omega
        refine ⟨_, rfl, _, rfl, _, rfl, _, rfl, x, y, rfl, rfl, div_any h0 h5 (by decide), _, rfl, _, _, rfl, rfl, d1.mulW h5 (by decide), _, _, rfl, rfl, _, _, rfl, ?_⟩
        have g4 : B 8200 (x - x.fdiv y * y) := by
          unfold B at *
          omega
        exact ⟨⟨_, _, rfl, rfl, h2, g1, g3.trans h3, h5, g4⟩, g2⟩
    · rintro σ H2 Q1 Q2 i ⟨v, hv, hs, k, e, z⟩
      exact ⟨v, hv, hs, k, e, i _ _ z⟩
/-! ### cut -/
def sp_law_cut : PySem.W.Frag → Sp := spCut
abbrev s__law_cut : Stmt := topS 24
theorem sc__law_cut : FnScope ["n", "d", "part"] ["n", "d"] (defScope s__law_cut) := ⟨rfl, rfl, rfl, by decide +kernel, rfl, by decide +kernel, by decide +kernel⟩
theorem k_law_cut (T : Tx K mg) (D : Df K mg "_law_cut" s__law_cut ["n", "d"]) (c_law_common : Kl P w K mg base 1 "_law_common" (sp_law_common K)) : Kl P w K mg base 2 "_law_cut" (sp_law_cut K) := by
  have nd := sc__law_cut.nd
  refine Kl.by_body D sc__law_cut (fun vs H Q E h => ?_) (fun f cdv A outer s H vs Q E hr h => ?_)
  · obtain ⟨_, _, rfl, _⟩ := h
    rfl
  · obtain ⟨n, d, rfl, h0, hn, hd, q⟩ := h
    have hu1 := hu_of hr
    refine ⟨_, (pss_cons (ps_set (i := 2) nd rfl (by first | exact Or.inl rfl | exact Or.inr rfl) (pe_k c_law_common  hr (by decide) (by rfl) (pa_cons (pv 0) (pa_cons (pv 1) pa_nil))))
      (pss_cons (ps_set (i := 2) nd rfl (by first | exact Or.inl rfl | exact Or.inr rfl) (pe_ifExp (pt_cmpR op_gt (pv 1) pe_int (nomark _)) (pv 2) (pe_un un_neg (pv 2))))
      (pss_one (ps_ret (pe_tup (pa_cons (pe_op op_fdivAny (pv 0) (pv 2)) (pa_cons (pe_op op_fdivAny (pv 1) (pv 2)) pa_nil))))))), ?_⟩
    refine ⟨_, rfl, _, rfl, n, d, rfl, hn, hd, ?_⟩
    have hs : sg n d ≠ 0 := sg_ne h0
    have c1 : CDivAny n (sg n d) := div_any hs (sg_B h0 hd) (by decide)
    have c2 : CDivAny d (sg n d) := div_any hs (sg_B h0 hd) (by decide)
    rw [← fq_div h0] at q
    refine ⟨_, rfl, _, _, rfl, rfl, _, rfl, ite2 (fun e => ?_) (fun e => ?_)⟩
    · have e' : 0 < d := of_decide_eq_true e
      have es : sg n d = ((Nat.gcd n.natAbs d.natAbs : Nat) : Int) := if_neg (by omega)
      refine ⟨_, rfl, ?_⟩
      refine ⟨_, rfl, _, rfl, n, _, rfl, rfl, es ▸ c1, _, rfl, _, rfl, d, _, rfl, rfl, es ▸ c2, (by show 2 ≤ sizeLine; decide), fun t nt => ?_⟩
      rw [es] at q
      exact q t nt
    · have e' : ¬ 0 < d := fun z => e (decide_eq_true z)
      have es : sg n d = -((Nat.gcd n.natAbs d.natAbs : Nat) : Int) := if_pos (by omega)
      refine ⟨_, rfl, _, rfl, ?_⟩
      refine ⟨_, rfl, _, rfl, n, _, rfl, rfl, es ▸ c1, _, rfl, _, rfl, d, _, rfl, rfl, es ▸ c2, (by show 2 ≤ sizeLine; decide), fun t nt => ?_⟩
      rw [es] at q
      exact q t nt
/-! ### the law's sums -/
def sp_law_plus : PySem.W.Frag → Sp := spBin (fun a b => True) (fun a b => a + b)
abbrev s__law_plus : Stmt := topS 25
theorem sc__law_plus : FnScope ["f", "g"] ["f", "g"] (defScope s__law_plus) := ⟨rfl, rfl, rfl, by decide +kernel, rfl, by decide +kernel, by decide +kernel⟩
theorem k_law_plus (T : Tx K mg) (D : Df K mg "_law_plus" s__law_plus ["f", "g"]) (c_law_cut : Kl P w K mg base 2 "_law_cut" (sp_law_cut K)) : Kl P w K mg base 3 "_law_plus" (sp_law_plus K) := by
  have nd := sc__law_plus.nd
  refine Kl.by_body D sc__law_plus (fun vs H Q E h => ?_) (fun f cdv A outer s H vs Q E hr h => ?_)
  · obtain ⟨_, _, _, _, rfl, _⟩ := h
    rfl
  · obtain ⟨f, g, a, b, rfl, hf, hg, ha, hb, h0, q⟩ := h
    have hu1 := hu_of hr
    refine ⟨_, (pss_one (ps_ret (pe_k c_law_cut  hr (by decide) (by rfl) (pa_cons (pe_op op_add (pe_op op_mulW (pe_ix ix_tup (pv 0) pe_int (fun _ _ => rfl)) (pe_ix ix_tup (pv 1) pe_int (fun _ _ => rfl))) (pe_op op_mulW (pe_ix ix_tup (pv 1) pe_int (fun _ _ => rfl)) (pe_ix ix_tup (pv 0) pe_int (fun _ _ => rfl)))) (pa_cons (pe_op op_mulW (pe_ix ix_tup (pv 0) pe_int (fun _ _ => rfl)) (pe_ix ix_tup (pv 1) pe_int (fun _ _ => rfl))) pa_nil))))), ?_⟩
    refine ⟨.ref f, rfl, f, _, 0, .int a.num, rfl, rfl, hf, rfl, .ref g, rfl, g, _, 1, .int b.den, rfl, rfl, hg, rfl, _, _, rfl, rfl, (B.mulW ha.n hb.d (by decide)), .ref g, rfl, g, _, 0, .int b.num, rfl, rfl, hg, rfl, .ref f, rfl, f, _, 1, .int a.den, rfl, rfl, hf, rfl, _, _, rfl, rfl, (B.mulW hb.n ha.d (by decide)), _, _, rfl, rfl, .ref f, rfl, f, _, 1, .int a.den, rfl, rfl, hf, rfl, .ref g, rfl, g, _, 1, .int b.den, rfl, rfl, hg, rfl, _, _, rfl, rfl, (B.mulW ha.d hb.d (by decide)), _, _, rfl, (mul_ne (den_ne a) (den_ne b)), ((B.mul ha.n hb.d).add (B.mul hb.n ha.d)).up (by decide), (B.mul ha.d hb.d).up (by decide), fun t nt => ?_⟩
    rw [fr_add a b]
    exact q t nt
def sp_law_less : PySem.W.Frag → Sp := spBin (fun a b => True) (fun a b => a - b)
abbrev s__law_less : Stmt := topS 26
theorem sc__law_less : FnScope ["f", "g"] ["f", "g"] (defScope s__law_less) := ⟨rfl, rfl, rfl, by decide +kernel, rfl, by decide +kernel, by decide +kernel⟩
theorem k_law_less (T : Tx K mg) (D : Df K mg "_law_less" s__law_less ["f", "g"]) (c_law_cut : Kl P w K mg base 2 "_law_cut" (sp_law_cut K)) : Kl P w K mg base 3 "_law_less" (sp_law_less K) := by
  have nd := sc__law_less.nd
  refine Kl.by_body D sc__law_less (fun vs H Q E h => ?_) (fun f cdv A outer s H vs Q E hr h => ?_)
  · obtain ⟨_, _, _, _, rfl, _⟩ := h
    rfl
  · obtain ⟨f, g, a, b, rfl, hf, hg, ha, hb, h0, q⟩ := h
    have hu1 := hu_of hr
    refine ⟨_, (pss_one (ps_ret (pe_k c_law_cut  hr (by decide) (by rfl) (pa_cons (pe_op op_sub (pe_op op_mulW (pe_ix ix_tup (pv 0) pe_int (fun _ _ => rfl)) (pe_ix ix_tup (pv 1) pe_int (fun _ _ => rfl))) (pe_op op_mulW (pe_ix ix_tup (pv 1) pe_int (fun _ _ => rfl)) (pe_ix ix_tup (pv 0) pe_int (fun _ _ => rfl)))) (pa_cons (pe_op op_mulW (pe_ix ix_tup (pv 0) pe_int (fun _ _ => rfl)) (pe_ix ix_tup (pv 1) pe_int (fun _ _ => rfl))) pa_nil))))), ?_⟩
    refine ⟨.ref f, rfl, f, _, 0, .int a.num, rfl, rfl, hf, rfl, .ref g, rfl, g, _, 1, .int b.den, rfl, rfl, hg, rfl, _, _, rfl, rfl, (B.mulW ha.n hb.d (by decide)), .ref g, rfl, g, _, 0, .int b.num, rfl, rfl, hg, rfl, .ref f, rfl, f, _, 1, .int a.den, rfl, rfl, hf, rfl, _, _, rfl, rfl, (B.mulW hb.n ha.d (by decide)), _, _, rfl, rfl, .ref f, rfl, f, _, 1, .int a.den, rfl, rfl, hf, rfl, .ref g, rfl, g, _, 1, .int b.den, rfl, rfl, hg, rfl, _, _, rfl, rfl, (B.mulW ha.d hb.d (by decide)), _, _, rfl, (mul_ne (den_ne a) (den_ne b)), ((B.mul ha.n hb.d).sub (B.mul hb.n ha.d)).up (by decide), (B.mul ha.d hb.d).up (by decide), fun t nt => ?_⟩
    rw [fr_sub a b]
    exact q t nt
def sp_law_by : PySem.W.Frag → Sp := spBin (fun a b => True) (fun a b => a * b)
abbrev s__law_by : Stmt := topS 27
theorem sc__law_by : FnScope ["f", "g"] ["f", "g"] (defScope s__law_by) := ⟨rfl, rfl, rfl, by decide +kernel, rfl, by decide +kernel, by decide +kernel⟩
theorem k_law_by (T : Tx K mg) (D : Df K mg "_law_by" s__law_by ["f", "g"]) (c_law_cut : Kl P w K mg base 2 "_law_cut" (sp_law_cut K)) : Kl P w K mg base 3 "_law_by" (sp_law_by K) := by
  have nd := sc__law_by.nd
  refine Kl.by_body D sc__law_by (fun vs H Q E h => ?_) (fun f cdv A outer s H vs Q E hr h => ?_)
  · obtain ⟨_, _, _, _, rfl, _⟩ := h
    rfl
  · obtain ⟨f, g, a, b, rfl, hf, hg, ha, hb, h0, q⟩ := h
    have hu1 := hu_of hr
    refine ⟨_, (pss_one (ps_ret (pe_k c_law_cut  hr (by decide) (by rfl) (pa_cons (pe_op op_mulW (pe_ix ix_tup (pv 0) pe_int (fun _ _ => rfl)) (pe_ix ix_tup (pv 1) pe_int (fun _ _ => rfl))) (pa_cons (pe_op op_mulW (pe_ix ix_tup (pv 0) pe_int (fun _ _ => rfl)) (pe_ix ix_tup (pv 1) pe_int (fun _ _ => rfl))) pa_nil))))), ?_⟩
    refine ⟨.ref f, rfl, f, _, 0, .int a.num, rfl, rfl, hf, rfl, .ref g, rfl, g, _, 0, .int b.num, rfl, rfl, hg, rfl, _, _, rfl, rfl, (B.mulW ha.n hb.n (by decide)), .ref f, rfl, f, _, 1, .int a.den, rfl, rfl, hf, rfl, .ref g, rfl, g, _, 1, .int b.den, rfl, rfl, hg, rfl, _, _, rfl, rfl, (B.mulW ha.d hb.d (by decide)), _, _, rfl, (mul_ne (den_ne a) (den_ne b)), (B.mul ha.n hb.n).up (by decide), (B.mul ha.d hb.d).up (by decide), fun t nt => ?_⟩
    rw [fr_mul a b]
    exact q t nt
def sp_law_over : PySem.W.Frag → Sp := spBin (fun a b => b ≠ 0) (fun a b => a / b)
abbrev s__law_over : Stmt := topS 28
theorem sc__law_over : FnScope ["f", "g"] ["f", "g"] (defScope s__law_over) := ⟨rfl, rfl, rfl, by decide +kernel, rfl, by decide +kernel, by decide +kernel⟩
theorem k_law_over (T : Tx K mg) (D : Df K mg "_law_over" s__law_over ["f", "g"]) (c_law_cut : Kl P w K mg base 2 "_law_cut" (sp_law_cut K)) : Kl P w K mg base 3 "_law_over" (sp_law_over K) := by
  have nd := sc__law_over.nd
  refine Kl.by_body D sc__law_over (fun vs H Q E h => ?_) (fun f cdv A outer s H vs Q E hr h => ?_)
  · obtain ⟨_, _, _, _, rfl, _⟩ := h
    rfl
  · obtain ⟨f, g, a, b, rfl, hf, hg, ha, hb, h0, q⟩ := h
    have hu1 := hu_of hr
    refine ⟨_, (pss_one (ps_ret (pe_k c_law_cut  hr (by decide) (by rfl) (pa_cons (pe_op op_mulW (pe_ix ix_tup (pv 0) pe_int (fun _ _ => rfl)) (pe_ix ix_tup (pv 1) pe_int (fun _ _ => rfl))) (pa_cons (pe_op op_mulW (pe_ix ix_tup (pv 0) pe_int (fun _ _ => rfl)) (pe_ix ix_tup (pv 1) pe_int (fun _ _ => rfl))) pa_nil))))), ?_⟩
    refine ⟨.ref f, rfl, f, _, 0, .int a.num, rfl, rfl, hf, rfl, .ref g, rfl, g, _, 1, .int b.den, rfl, rfl, hg, rfl, _, _, rfl, rfl, (B.mulW ha.n hb.d (by decide)), .ref f, rfl, f, _, 1, .int a.den, rfl, rfl, hf, rfl, .ref g, rfl, g, _, 0, .int b.num, rfl, rfl, hg, rfl, _, _, rfl, rfl, (B.mulW ha.d hb.n (by decide)), _, _, rfl, (mul_ne (den_ne a) (num_ne h0)), (B.mul ha.n hb.d).up (by decide), (B.mul ha.d hb.n).up (by decide), fun t nt => ?_⟩
    rw [fr_div a b h0]
    exact q t nt
/-! ### the law's roots -/
def sp_law_root (K : PySem.W.Frag) : Sp := fun vs H Q _ => ∃ n : Int, vs = [.int n] ∧ 0 ≤ n ∧ B 3900 n ∧ ∀ H' r, Same H H' → 0 ≤ r → r * r ≤ n → n < (r + 1) * (r + 1) → Q (.int r) H'
theorem sq_le_self {a n : Int} (h0 : 0 ≤ a) (h : a * a ≤ n) : a ≤ n := by
  rcases (show a < 1 ∨ 1 ≤ a by omega) with e | e
  · have : a = 0 := by omega
    subst this
    exact h
  · have := Int.mul_le_mul_of_nonneg_right e h0
    omega
abbrev s__law_root : Stmt := topS 23
theorem sc__law_root : FnScope ["n", "low", "high", "middle"] ["n"] (defScope s__law_root) := ⟨rfl, rfl, rfl, by decide +kernel, rfl, by decide +kernel, by decide +kernel⟩
theorem k_law_root (T : Tx K mg) (D : Df K mg "_law_root" s__law_root ["n"])  : Kl P w K mg base 1 "_law_root" (sp_law_root K) := by
  have nd := sc__law_root.nd
  refine Kl.by_body D sc__law_root (fun vs H Q E h => ?_) (fun f cdv A outer s H vs Q E hr h => ?_)
  · obtain ⟨_, rfl, _⟩ := h
    rfl
  · obtain ⟨n, rfl, h0, hB, q⟩ := h
    have hu1 := hu_of hr
    refine ⟨_, (pss_cons (ps_asg (pe_tup (pa_cons pe_int (pa_cons pe_int pa_nil))) (pg_tup rfl (pgs_cons (pg_name (i := 1) nd rfl (by first | exact Or.inl rfl | exact Or.inr rfl)) (pgs_cons (pg_name (i := 2) nd rfl (by first | exact Or.inl rfl | exact Or.inr rfl)) pgs_nil))))
      (pss_cons (ps_while PassesOwn.never (pt_cmpR op_le (pe_op op_mulW (pv 2) (pv 2)) (pv 0) (nomark _)) (pss_one (ps_par (i := 1) (j := 2) (by rfl) nd rfl rfl (by decide) rfl rfl (pa_cons (pv 2) (pa_cons (pe_op op_mul pe_int (pv 2)) pa_nil)) (by rfl))))
      (pss_cons (ps_while PassesOwn.never (pt_cmpR op_gt (pe_op op_sub (pv 2) (pv 1)) pe_int (nomark _)) (pss_cons (ps_set (i := 3) nd rfl (by first | exact Or.inl rfl | exact Or.inr rfl) (pe_op op_fdiv (pe_op op_add (pv 1) (pv 2)) pe_int))
      (pss_one (ps_asg (pe_ifExp (pt_cmpR op_le (pe_op op_mulW (pv 3) (pv 3)) (pv 0) (nomark _)) (pe_tup (pa_cons (pv 3) (pa_cons (pv 2) pa_nil))) (pe_tup (pa_cons (pv 1) (pa_cons (pv 3) pa_nil)))) (pg_tup rfl (pgs_cons (pg_name (i := 1) nd rfl (by first | exact Or.inl rfl | exact Or.inr rfl)) (pgs_cons (pg_name (i := 2) nd rfl (by first | exact Or.inl rfl | exact Or.inr rfl)) pgs_nil)))))))
      (pss_one (ps_ret (pv 1)))))), ?_⟩
    refine ⟨(by show 2 ≤ sizeLine; decide), fun t0 nt0 => ?_⟩
    have s1 := Same.new (H := H) (p := t0) (o := .tup [.int 0, .int 1]) nt0
    have g1 : upd H t0 (.tup [.int 0, .int 1]) t0 = some (.tup [.int 0, .int 1]) := upd_same
    generalize upd H t0 (.tup [.int 0, .int 1]) = H1 at s1 g1 ⊢
    refine ⟨t0, _, rfl, tup_of g1, rfl, _, _, rfl, _, _, rfl, rfl, ?_⟩
    first | refine sigN [some (.int (n)), some (.int (0)), some (.int (1)), none] (by rfl) ?_ | refine sig [some (.int (n)), some (.int (0)), some (.int (1)), none] (by rfl) ?_
    refine while_by (fun σ H2 => H2 = H1 ∧ ∃ lo hi : Int, σ = [some (.int n), some (.int lo), some (.int hi), none] ∧ 0 ≤ lo ∧ lo < hi ∧ hi ≤ 2 * n + 1 ∧ lo * lo ≤ n)
      (fun σ _ => match σ with | [_, _, some (.int hi), _] => (n + 1 - hi).toNat | _ => 0) ⟨rfl, 0, 1, rfl, by decide, by decide, by omega, by omega⟩ ?_ ?_
    · rintro σ H2 ⟨rfl, lo, hi, rfl, l0, lh, hb, ll⟩
      have hiB : B 3902 hi := by
        unfold Gd.B at *
        omega
      refine ⟨_, rfl, _, rfl, _, _, rfl, rfl, hiB.mulW hiB (by decide), _, rfl, _, _, rfl, rfl, _, rfl, ?_⟩
      by_cases hh : hi * hi ≤ n
      · refine iteY (decide_eq_true hh) ?_
        have h1 := sq_le_self (show 0 ≤ hi by omega) hh
        refine ⟨_, rfl, _, rfl, _, _, rfl, rfl, (Or.inl ⟨by decide, by decide⟩), _, _, rfl, ?_⟩
        refine ⟨⟨rfl, hi, 2 * hi, rfl, by omega, by omega, by omega, hh⟩, ?_⟩
        show (n + 1 - 2 * hi).toNat < (n + 1 - hi).toNat
        omega
      · refine iteN (by simpa using hh) ?_
        have hg : n < hi * hi := by omega
        refine while_by (fun σ H3 => Same H2 H3 ∧ ∃ (lo hi : Int) (v : Option V), σ = [some (.int n), some (.int lo), some (.int hi), v] ∧ 0 ≤ lo ∧ lo < hi ∧ lo * lo ≤ n ∧ n < hi * hi ∧ B 3902 hi)
          (fun σ _ => match σ with | [_, some (.int lo), some (.int hi), _] => (hi - lo).toNat | _ => 0) ⟨Same.refl _, lo, hi, none, rfl, l0, lh, ll, hg, hiB⟩ ?_ ?_
        · rintro σ H3 ⟨s3, lo, hi, v, rfl, l0, lh, ll, hg, hiB⟩
          refine ⟨_, rfl, _, rfl, _, _, rfl, rfl, _, _, rfl, rfl, _, rfl, ?_⟩
          by_cases hh : 1 < hi - lo
          · refine iteY (decide_eq_true hh) ?_
            refine ⟨_, rfl, _, rfl, _, _, rfl, rfl, _, _, rfl, rfl, ⟨by decide, by decide⟩, ?_⟩
            first | refine sigN [some (.int (n)), some (.int (lo)), some (.int (hi)), some (.int ((lo + hi) / 2))] (by rfl) ?_ | refine sig [some (.int (n)), some (.int (lo)), some (.int (hi)), some (.int ((lo + hi) / 2))] (by rfl) ?_
            have m1 : lo < (lo + hi) / 2 := by omega
            have m2 : (lo + hi) / 2 < hi := by omega
            generalize (lo + hi) / 2 = mid at m1 m2 ⊢
            have mB : B 3902 mid := by
              unfold Gd.B at *
              omega
            refine ⟨_, rfl, _, rfl, _, _, rfl, rfl, mB.mulW mB (by decide), _, rfl, _, _, rfl, rfl, _, rfl, ite2 (fun e => ?_) (fun e => ?_)⟩
            · have e' : mid * mid ≤ n := of_decide_eq_true e
              refine ⟨_, rfl, _, rfl, (by show 2 ≤ sizeLine; decide), fun t nt => ?_⟩
              refine ⟨t, _, rfl, tup_of upd_same, rfl, _, _, rfl, _, _, rfl, rfl, ?_⟩
              refine ⟨⟨Same.put s3 (s3.free nt), mid, hi, _, rfl, by omega, m2, e', hg, hiB⟩, ?_⟩
              show (hi - mid).toNat < (hi - lo).toNat
              omega
            · have e' : ¬ mid * mid ≤ n := fun z => e (decide_eq_true z)
              refine ⟨_, rfl, _, rfl, (by show 2 ≤ sizeLine; decide), fun t nt => ?_⟩
              refine ⟨t, _, rfl, tup_of upd_same, rfl, _, _, rfl, _, _, rfl, rfl, ?_⟩
              refine ⟨⟨Same.put s3 (s3.free nt), lo, mid, _, rfl, l0, m1, ll, by omega, mB⟩, ?_⟩
              show (mid - lo).toNat < (hi - lo).toNat
              omega
          · refine iteN (by simpa using hh) ?_
            have e : hi = lo + 1 := by omega
            subst e
            exact ⟨_, rfl, q _ lo (s1.trans s3) l0 ll hg⟩
        · rintro σ H3 Q1 Q2 i ⟨v, hv, v2, hv2, x, y, e1, e2, x2, y2, e3, e4, k, e, z⟩
          exact ⟨v, hv, v2, hv2, x, y, e1, e2, x2, y2, e3, e4, k, e, i _ _ z⟩
    · rintro σ H2 Q1 Q2 i ⟨v, hv, v2, hv2, x, y, e1, e2, c, v3, hv3, x2, y2, e3, e4, k, e, z⟩
      exact ⟨v, hv, v2, hv2, x, y, e1, e2, c, v3, hv3, x2, y2, e3, e4, k, e, i _ _ z⟩
end
end K53
set_option Elab.async false
set_option linter.all false
set_option maxRecDepth 100000
set_option maxHeartbeats 4000000
namespace K53
open PySem PySem.Spec PyProof.Rows L2 Gd QM
section
variable {P : Program} {w : World} {K : PySem.W.Frag} {mg : Str → Option Value} {base : Heap}
/-! ### one draw -/
def sp_law_draw (K : PySem.W.Frag) : Sp := fun vs H Q _ => ∃ (m cl : Addr) (b : Int) (n : Nat), vs = [.ref m, .int b] ∧ 0 < b ∧ b < 1073741824 ∧ n ≤ 1000000 ∧ MAt H m cl n ∧ ∀ H' r, But m H H' → MAt H' m cl (n + 1) → 0 ≤ r → r < b → Q (.int r) H'
abbrev s__law_draw : Stmt := topS 19
theorem sc__law_draw : FnScope ["m", "below", "found", "spot", "cells", "added", "cell", "blend"] ["m", "below"] (defScope s__law_draw) := ⟨rfl, rfl, rfl, by decide +kernel, rfl, by decide +kernel, by decide +kernel⟩
theorem k_law_draw (T : Tx K mg) (D : Df K mg "_law_draw" s__law_draw ["m", "below"])  : Kl P w K mg base 1 "_law_draw" (sp_law_draw K) := by
  have nd := sc__law_draw.nd
  refine Kl.by_body D sc__law_draw (fun vs H Q E h => ?_) (fun f cdv A outer s H vs Q E hr h => ?_)
  · obtain ⟨_, _, _, _, rfl, _⟩ := h
    rfl
  · obtain ⟨m, c, b, n, rfl, hb0, hb1, hn, ⟨L, s0, cs, k, hm, hk, hc, hl⟩, q⟩ := h
    have hu1 := hu_of hr
    refine ⟨_, (pss_cons (ps_if (pt_cmpR op_gt (pe_dget hu1 (pv 0) pe_str (fun _ _ => rfl)) pe_int (nomark _)) (pss_cons (ps_set (i := 2) nd rfl (by first | exact Or.inl rfl | exact Or.inr rfl) (pe_op op_mod (pe_callTy call_intI (by rfl) T.int (by decide +kernel) (pa_cons (pe_dget hu1 (pv 0) pe_str (fun _ _ => rfl)) pa_nil)) (pv 1)))
      (pss_cons (ps_dput hu1 (pv 0) pe_str (pe_op op_fdivN (pe_dget hu1 (pv 0) pe_str (fun _ _ => rfl)) (pv 1)) rfl)
      (pss_one (ps_ret (pv 2))))) pss_nil)
      (pss_cons (ps_set (i := 3) nd rfl (by first | exact Or.inl rfl | exact Or.inr rfl) (pe_dget hu1 (pv 0) pe_str (fun _ _ => rfl)))
      (pss_cons (ps_dput hu1 (pv 0) pe_str (pe_op op_add (pv 3) pe_int) rfl)
      (pss_cons (ps_par (i := 4) (j := 5) (by rfl) nd rfl rfl (by decide) rfl rfl (pa_cons (pe_dget hu1 (pv 0) pe_str (fun _ _ => rfl)) (pa_cons (pe_op op_add (pe_dget hu1 (pv 0) pe_str (fun _ _ => rfl)) (pe_op op_mulW (pe_op op_mul pe_int (pv 3)) (pv 3))) pa_nil)) (by rfl))
      (pss_cons (ps_set (i := 6) nd rfl (by first | exact Or.inl rfl | exact Or.inr rfl) (pe_ix ix_list (pv 4) (pe_op op_mod (pe_callTy call_intI (by rfl) T.int (by decide +kernel) (pa_cons (pv 3) pa_nil)) (pe_callB call_len_seq (by rfl) T.len (by decide +kernel) (pa_cons (pv 4) pa_nil))) (fun _ _ => rfl)))
      (pss_cons (ps_set (i := 7) nd rfl (by first | exact Or.inl rfl | exact Or.inr rfl) (pe_op op_mod (pe_callTy call_intI (by rfl) T.int (by decide +kernel) (pa_cons (pe_op op_add (pe_op op_mul (pv 6) (pe_op op_add (pe_op op_mul pe_int (pv 3)) pe_int)) (pv 5)) pa_nil)) pe_int))
      (pss_cons (ps_set (i := 7) nd rfl (by first | exact Or.inl rfl | exact Or.inr rfl) (pe_op op_mod (pe_callTy call_intI (by rfl) T.int (by decide +kernel) (pa_cons (pe_op op_add (pe_op op_add (pe_op op_mul (pv 7) (pv 7)) (pe_op op_mul pe_int (pv 3))) (pe_dget hu1 (pv 0) pe_str (fun _ _ => rfl))) pa_nil)) pe_int))
      (pss_one (ps_ret (pe_op op_mod (pe_op op_fdiv (pe_op op_mod (pe_callTy call_intI (by rfl) T.int (by decide +kernel) (pa_cons (pe_op op_add (pe_op op_mul (pv 7) pe_int) (pv 3)) pa_nil)) pe_int) pe_int) (pv 1))))))))))), ?_⟩
    have gL : DGet H m (.str "left") (some (.int L)) := m4_left (L := L) ▸ DGet.k (k := Sum.inr "left") hm
    have ncm : c ≠ m := ne_of hc hm (by intro z; cases z)
    refine ⟨_, rfl, m, _, rfl, gL, _, _, rfl, rfl, _, rfl, ite2 (fun e => ?_) (fun e => ?_)⟩
    · refine ⟨_, rfl, m, _, rfl, gL, _, rfl, _, rfl, _, _, rfl, rfl, hb0, ?_⟩
      refine ⟨_, rfl, m, _, rfl, gL, _, rfl, _, _, rfl, rfl, ⟨by omega, by omega⟩, _, rfl, m, _, rfl, DPut.k (k := Sum.inr "left") hm (small1000 (by show 4 ≤ 1000; decide)), ?_⟩
      rw [m4_putL]
      refine ⟨_, rfl, ?_⟩
      refine q _ _ But.upd ⟨_, s0, cs, k, upd_same, by omega, ?_, hl⟩ (Int.emod_nonneg _ (by omega)) (Int.emod_lt_of_pos _ hb0)
      rw [upd_ne ncm]
      exact hc
    · have gS : DGet H m (.str "spot") (some (.int k)) := m4_spot (n := k) ▸ DGet.k (k := Sum.inr "spot") hm
      refine ⟨_, rfl, m, _, rfl, gS, ?_⟩
      refine ⟨_, rfl, _, _, rfl, rfl, _, rfl, m, _, rfl, DPut.k (k := Sum.inr "spot") hm (small1000 (by show 4 ≤ 1000; decide)), ?_⟩
      rw [m4_putS]
      have hm2 : (upd H m (HO.dK (mk4 L s0 c (k + 1)))) m = some (.dK (mk4 L s0 c (k + 1))) := upd_same
      have hc2 : (upd H m (HO.dK (mk4 L s0 c (k + 1)))) c = some (.lst (cs.map V.int)) := by
        rw [upd_ne ncm]
        exact hc
      have bt : But m H (upd H m (HO.dK (mk4 L s0 c (k + 1)))) := But.upd
      generalize upd H m (HO.dK (mk4 L s0 c (k + 1))) = H2 at hm2 hc2 bt ⊢
      have gC : DGet H2 m (.str "cells") (some (.ref c)) := m4_cells (c := c) ▸ DGet.k (k := Sum.inr "cells") hm2
      have gE : DGet H2 m (.str "seed") (some (.int s0)) := m4_seed (s := s0) ▸ DGet.k (k := Sum.inr "seed") hm2
      have bk : B 20 (k : Int) := by
        unfold B
        omega
      refine ⟨_, rfl, m, _, rfl, gC, _, rfl, m, _, rfl, gE, _, rfl, _, _, rfl, rfl, (Or.inl ⟨by decide, by decide⟩), _, rfl, _, _, rfl, rfl, ((B.lit (n := 20) (by decide)).mul bk).mulW bk (by decide), _, _, rfl, rfl, _, _, rfl, ?_⟩
      have hlz : (0 : Int) < ((cs.map V.int).length : Int) := by
        rw [List.length_map]
        omega
      have hix : ∃ z : Int, atI (cs.map V.int) ((k : Int) % ((cs.map V.int).length : Int)) = some (.int z) := by
        rw [List.length_map]
        have h1 : k % cs.length < cs.length := Nat.mod_lt _ hl
        refine ⟨cs[k % cs.length], ?_⟩
        rw [← Int.natCast_emod]
        refine atI_nat ?_
        rw [List.getElem?_map, List.getElem?_eq_getElem h1]
        rfl
      obtain ⟨z, hz⟩ := hix
      refine ⟨_, rfl, _, rfl, _, rfl, _, rfl, c, _, rfl, .inl (.inl (.inl hc2)), _, _, rfl, rfl, hlz, c, _, _, _, rfl, rfl, .inl (.inl hc2), hz, ?_⟩
      have bk2 : B 30 (2 * (k : Int) + 3) := by
        unfold B
        omega
      refine ⟨_, rfl, _, rfl, _, _, rfl, rfl, (Or.inl ⟨by decide, by decide⟩), _, _, rfl, rfl, _, _, rfl, rfl, bk2.mulR (by decide), _, rfl, _, _, rfl, rfl, _, rfl, _, _, rfl, rfl, (by show (0 : Int) < 2147483647; decide), ?_⟩
      have be : ∀ y : Int, B 32 (y % 2147483647) := fun y => by
        have h1 := Int.emod_nonneg y (show (2147483647 : Int) ≠ 0 by decide)
        have h2 := Int.emod_lt_of_pos y (show (0 : Int) < 2147483647 by decide)
        unfold B
        omega
      refine ⟨_, rfl, _, rfl, _, _, rfl, rfl, (be _).mulR (by decide), _, rfl, _, _, rfl, rfl, (Or.inl ⟨by decide, by decide⟩), _, _, rfl, rfl, _, rfl, m, _, rfl, gE, _, _, rfl, rfl, _, rfl, _, _, rfl, rfl, (by show (0 : Int) < 2147483629; decide), ?_⟩
      refine ⟨_, rfl, _, _, rfl, rfl, (Or.inr ⟨by decide, by decide⟩), _, rfl, _, _, rfl, rfl, _, rfl, _, _, rfl, rfl, (by show (0 : Int) < 2147483647; decide), _, _, rfl, rfl, ⟨by decide, by decide⟩, _, rfl, _, _, rfl, rfl, hb0, ?_⟩
      exact q _ _ bt ⟨L, s0, cs, k + 1, hm2, by omega, hc2, hl⟩ (Int.emod_nonneg _ (by omega)) (Int.emod_lt_of_pos _ hb0)
/-! ### one of some -/
def sp_law_of (K : PySem.W.Frag) : Sp := fun vs H Q _ => ∃ (m cl a : Addr) (xs : List V) (n : Nat), vs = [.ref m, .ref a] ∧ SqL K H a xs ∧ 0 < xs.length ∧ xs.length ≤ 1000 ∧ n ≤ 1000000 ∧ MAt H m cl n ∧ ∀ H' x, But m H H' → MAt H' m cl (n + 1) → x ∈ xs → Q x H'
abbrev s__law_of : Stmt := topS 20
theorem sc__law_of : FnScope ["m", "some"] ["m", "some"] (defScope s__law_of) := ⟨rfl, rfl, rfl, by decide +kernel, rfl, by decide +kernel, by decide +kernel⟩
theorem k_law_of (T : Tx K mg) (D : Df K mg "_law_of" s__law_of ["m", "some"]) (c_law_draw : Kl P w K mg base 1 "_law_draw" (sp_law_draw K)) : Kl P w K mg base 2 "_law_of" (sp_law_of K) := by
  have nd := sc__law_of.nd
  refine Kl.by_body D sc__law_of (fun vs H Q E h => ?_) (fun f cdv A outer s H vs Q E hr h => ?_)
  · obtain ⟨_, _, _, _, _, rfl, _⟩ := h
    rfl
  · obtain ⟨m, cl, a, xs, n, rfl, hx, h0, h1, hn, hM, q⟩ := h
    have hu1 := hu_of hr
    refine ⟨_, (pss_one (ps_ret (pe_ix ix_list (pv 1) (pe_k c_law_draw  hr (by decide) (by rfl) (pa_cons (pv 0) (pa_cons (pe_callB call_len_seq (by rfl) T.len (by decide +kernel) (pa_cons (pv 1) pa_nil)) pa_nil))) (fun _ _ => rfl)))), ?_⟩
    refine ⟨.ref a, rfl, _, rfl, .ref a, rfl, a, xs, rfl, .inl hx, m, cl, _, n, rfl, by omega, by omega, hn, hM, fun H1 r b1 m1 r0 r1 => ?_⟩
    have hr1 : r.toNat < xs.length := by omega
    refine ⟨a, xs, r, xs[r.toNat], rfl, rfl, b1.seqL hM hx, ?_, q _ _ b1 m1 (List.getElem_mem hr1)⟩
    have key : atI xs ((r.toNat : Nat) : Int) = some xs[r.toNat] := atI_nat (List.getElem?_eq_getElem hr1)
    rw [show ((r.toNat : Nat) : Int) = r by omega] at key
    exact key
/-! ### between -/
def sp_law_between (K : PySem.W.Frag) : Sp := fun vs H Q _ => ∃ (m cl : Addr) (z : Int) (n : Nat), vs = [.ref m, .int z] ∧ 0 ≤ z ∧ z ≤ 100000 ∧ n ≤ 1000000 ∧ MAt H m cl n ∧ ∀ H' r, But m H H' → MAt H' m cl (n + 1) → -z ≤ r → r ≤ z → Q (.int r) H'
abbrev s__law_between : Stmt := topS 21
theorem sc__law_between : FnScope ["m", "size"] ["m", "size"] (defScope s__law_between) := ⟨rfl, rfl, rfl, by decide +kernel, rfl, by decide +kernel, by decide +kernel⟩
theorem k_law_between (T : Tx K mg) (D : Df K mg "_law_between" s__law_between ["m", "size"]) (c_law_draw : Kl P w K mg base 1 "_law_draw" (sp_law_draw K)) : Kl P w K mg base 2 "_law_between" (sp_law_between K) := by
  have nd := sc__law_between.nd
  refine Kl.by_body D sc__law_between (fun vs H Q E h => ?_) (fun f cdv A outer s H vs Q E hr h => ?_)
  · obtain ⟨_, _, _, _, rfl, _⟩ := h
    rfl
  · obtain ⟨m, cl, z, n, rfl, h0, h1, hn, hM, q⟩ := h
    have hu1 := hu_of hr
    refine ⟨_, (pss_one (ps_ret (pe_op op_sub (pe_k c_law_draw  hr (by decide) (by rfl) (pa_cons (pv 0) (pa_cons (pe_op op_add (pe_op op_mul pe_int (pv 1)) pe_int) pa_nil))) (pv 1)))), ?_⟩
    refine ⟨_, rfl, _, rfl, _, _, rfl, rfl, (Or.inl ⟨by decide, by decide⟩), _, _, rfl, rfl, m, cl, _, n, rfl, by omega, by omega, hn, hM, fun H1 r b1 m1 r0 r1 => ?_⟩
    refine ⟨_, rfl, _, _, rfl, rfl, ?_⟩
    exact q _ _ b1 m1 (by omega) (by omega)
/-! ### the state of a turn -/
def sp_law_begun (K : PySem.W.Frag) : Sp := fun vs H Q _ => ∃ (a : Addr) (k : Int) (ns : List Int), vs = [.ref a, .int k] ∧ SqL K H a (ns.map V.int) ∧ ns.length ≤ 63 ∧ 0 ≤ k ∧ k ≤ 100 ∧ ∀ H' m cl, Same H H' → H m = none → H cl = none → MAt H' m cl 0 → Q (.ref m) H'
theorem cut_int {ns : List Int} (lo hi : Option Int) : ∃ ms : List Int, cutV (ns.map V.int) lo hi = ms.map V.int ∧ ms.length ≤ ns.length := by
  unfold cutV
  refine ⟨(ns.drop (HT.sIx (ns.map V.int).length 0 lo)).take (HT.sIx (ns.map V.int).length (ns.map V.int).length hi - HT.sIx (ns.map V.int).length 0 lo), ?_, ?_⟩
  · rw [List.map_take, List.map_drop]
  · rw [List.length_take, List.length_drop]
    omega
abbrev s__law_begun : Stmt := topS 18
theorem sc__law_begun : FnScope ["script", "k", "cells", "great", "cell", "begun", "left"] ["script", "k"] (defScope s__law_begun) := ⟨rfl, rfl, rfl, by decide +kernel, rfl, by decide +kernel, by decide +kernel⟩
theorem k_law_begun (T : Tx K mg) (D : Df K mg "_law_begun" s__law_begun ["script", "k"])  : Kl P w K mg base 1 "_law_begun" (sp_law_begun K) := by
  have nd := sc__law_begun.nd
  refine Kl.by_body D sc__law_begun (fun vs H Q E h => ?_) (fun f cdv A outer s H vs Q E hr h => ?_)
  · obtain ⟨_, _, _, rfl, _⟩ := h
    rfl
  · obtain ⟨a, k, ns, rfl, hx, hl, hk0, hk1, q⟩ := h
    have hu1 := hu_of hr
    refine ⟨_, (pss_cons (ps_set (i := 2) nd rfl (by first | exact Or.inl rfl | exact Or.inr rfl) (pe_op op_cat (pe_slice sl_list (pv 0) (po_some (pv 1)) po_none) (pe_slice sl_list (pv 0) po_none (po_some (pv 1)))))
      (pss_cons (ps_setLc (i := 3) (own := [("cell", 4)]) (g := gName 4) rfl nd rfl rfl (sw_true rfl rfl rfl (by decide +kernel)) (pi_list (pv 0)) (blkOk_by (N := ["script", "k", "cells", "great", "cell", "begun", "left"]) (sc := defScope s__law_begun) (by decide +kernel)) (fun _ _ _ _ _ => (pg_name (i := 4) nd rfl (by first | exact Or.inl rfl | exact Or.inr rfl))) (fun _ _ _ _ _ => (pts_one (pt_cmpR op_ge (pv 4) (pe_op op_pow pe_int pe_int) (nomark _)))) (fun _ _ _ _ _ => (pv 4)))
      (pss_cons (ps_set (i := 5) nd rfl (by first | exact Or.inl rfl | exact Or.inr rfl) (pe_op op_add pe_int (pe_op op_mul pe_int (pv 1))))
      (pss_cons (ps_for PassesOwn.never rfl (pi_list (pv 2)) (pg_name (i := 4) nd rfl (by first | exact Or.inl rfl | exact Or.inr rfl)) (pss_one (ps_set (i := 5) nd rfl (by first | exact Or.inl rfl | exact Or.inr rfl) (pe_op op_mod (pe_callTy call_intI (by rfl) T.int (by decide +kernel) (pa_cons (pe_op op_add (pe_op op_mul (pv 5) pe_int) (pv 4)) pa_nil)) pe_int))))
      (pss_cons (ps_set (i := 6) nd rfl (by first | exact Or.inl rfl | exact Or.inr rfl) (pe_ifExp (pt_cmpR op_lt (pv 1) (pe_callB call_len_seq (by rfl) T.len (by decide +kernel) (pa_cons (pv 3) pa_nil)) (nomark _)) (pe_ix ix_list (pv 3) (pv 1) (fun _ _ => rfl)) pe_int))
      (pss_one (ps_ret (pe_disp (pps_cons pe_str (pv 6) (pps_cons pe_str (pv 5) (pps_cons pe_str (pe_op op_cat (pv 2) (pe_lst (pa_cons (pe_op op_add (pe_op op_mul pe_int (pv 1)) pe_int) pa_nil))) (pps_cons pe_str pe_int pps_nil)))) (by rfl) (by rfl) (fun z => by cases z) (by decide))))))))), ?_⟩
    obtain ⟨m1, e1, l1⟩ := cut_int (ns := ns) (some k) none
    obtain ⟨m2, e2, l2⟩ := cut_int (ns := ns) none (some k)
    refine ⟨.ref a, rfl, _, rfl, k, rfl, a, _, rfl, hx, fun p1 n1 => ?_⟩
    rw [e1]
    have s1 : Same H (upd H p1 (.lst (m1.map V.int))) := Same.new n1
    have g1 : (upd H p1 (.lst (m1.map V.int))) p1 = some (.lst (m1.map V.int)) := upd_same
    generalize upd H p1 (.lst (m1.map V.int)) = H1 at s1 g1 ⊢
    refine ⟨.ref a, rfl, _, rfl, k, rfl, a, _, rfl, s1.seq hx, fun p2 n2 => ?_⟩
    rw [e2]
    have s2 : Same H1 (upd H1 p2 (.lst (m2.map V.int))) := Same.new n2
    have g2 : (upd H1 p2 (.lst (m2.map V.int))) p2 = some (.lst (m2.map V.int)) := upd_same
    generalize upd H1 p2 (.lst (m2.map V.int)) = H2 at s2 g2 ⊢
    refine ⟨p1, p2, _, _, rfl, rfl, s2 _ _ g1, g2, ?_, fun p3 n3 => ?_⟩
    · rw [List.length_map, List.length_map]
      exact small (by omega)
    rw [← List.map_append]
    have s3 : Same H2 (upd H2 p3 (.lst ((m1 ++ m2).map V.int))) := Same.new n3
    have g3 : (upd H2 p3 (.lst ((m1 ++ m2).map V.int))) p3 = some (.lst ((m1 ++ m2).map V.int)) := upd_same
    have hl3 : (m1 ++ m2).length ≤ 126 := by
      rw [List.length_append]
      omega
    generalize m1 ++ m2 = cs at s3 g3 hl3 ⊢
    generalize upd H2 p3 (.lst (cs.map V.int)) = H3 at s3 g3 ⊢
    have sA : Same H H3 := (s1.trans s2).trans s3
    clear s1 s2 s3 g1 g2
    first | refine sigN [some (.ref a), some (.int (k)), some (V.ref p3), none, none, none, none] (by rfl) ?_ | refine sig [some (.ref a), some (.int (k)), some (V.ref p3), none, none, none, none] (by rfl) ?_
    refine ⟨.ref a, rfl, a, rfl, ⟨_, sA.seq hx⟩, fun D hD => ?_⟩
    refine lc_list (K := K) (a := a) (xs := ns.map V.int) (fun i H4 => Same H3 H4 ∧ ∃ gs : List Int, H4 D = some (.lst (gs.map V.int)) ∧ gs.length ≤ i) ⟨Same.new hD, [], upd_same, Nat.le_refl _⟩ (fun i H4 _ z => (sA.trans z.1).seq hx) (fun i x H4 hi z => ?_) (fun H4 z => ?_)
    · obtain ⟨s4, gs, g4, l4⟩ := z
      obtain ⟨y, rfl⟩ : ∃ y : Int, x = .int y := by
        rw [List.getElem?_map] at hi
        cases e : ns[i]? with
        | none =>
          rw [e] at hi
          cases hi
        | some y =>
          rw [e] at hi
          exact ⟨y, (Option.some.inj hi).symm⟩
      have hi2 : i < ns.length := by
        have h1 := (List.getElem?_eq_some_iff.mp hi).1
        rw [List.length_map] at h1
        exact h1
      refine ⟨rfl, _, rfl, _, _, rfl, rfl, ⟨by decide, by decide, by decide⟩, _, _, rfl, rfl, _, rfl, ite2 (fun _ => ?_) (fun _ => ?_)⟩
      · refine ⟨_, rfl, _, g4, ?_, Same.put s4 hD, gs ++ [y], ?_, ?_⟩
        · rw [List.length_map]
          exact small1000 (by omega)
        · rw [upd_same, List.map_append]
          rfl
        · rw [List.length_append]
          exact Nat.add_le_add_right l4 1
      · exact ⟨s4, gs, g4, Nat.le_succ_of_le l4⟩
    · obtain ⟨s4, gs, g4, l4⟩ := z
      have sB : Same H H4 := sA.trans s4
      have g3' := s4 _ _ g3
      refine ⟨_, rfl, _, _, rfl, rfl, (Or.inl ⟨by decide, by decide⟩), _, _, rfl, rfl, ?_⟩
      first | refine sigN [some (.ref a), some (.int (k)), some (V.ref p3), some (V.ref D), none, some (.int (61 + 9 * k)), none] (by rfl) ?_ | refine sig [some (.ref a), some (.int (k)), some (V.ref p3), some (V.ref D), none, some (.int (61 + 9 * k)), none] (by rfl) ?_
      refine ⟨_, rfl, p3, rfl, ⟨_, .inl (.inl g3')⟩, for_list (K := K) (a := p3) (xs := cs.map V.int) (fun i σ H5 => H5 = H4 ∧ ∃ (y : Int) (v : Option V), σ = [some (.ref a), some (.int k), some (.ref p3), some (.ref D), v, some (.int y), none]) ⟨rfl, _, none, rfl⟩ (fun i σ H5 _ z => by rw [z.1]; exact .inl (.inl g3')) ?_ ?_⟩
      · rintro i x σ H5 hi ⟨rfl, y, v, rfl⟩
        obtain ⟨t, rfl⟩ : ∃ t : Int, x = .int t := by
          rw [List.getElem?_map] at hi
          cases e : cs[i]? with
          | none =>
            rw [e] at hi
            cases hi
          | some t =>
            rw [e] at hi
            exact ⟨t, (Option.some.inj hi).symm⟩
        refine ⟨_, rfl, _, _, rfl, rfl, (Or.inr ⟨by decide, by decide⟩), _, rfl, _, _, rfl, rfl, _, rfl, _, _, rfl, rfl, (by show (0 : Int) < 2147483647; decide), ?_⟩
        exact ⟨rfl, _, _, rfl⟩
      · rintro σ H5 ⟨rfl, y, v, rfl⟩
        refine ⟨_, rfl, _, rfl, D, _, rfl, .inl (.inl (.inl g4)), _, _, rfl, rfl, _, rfl, ite2 (fun e => ?A) (fun e => ?B)⟩
        case' A =>
          have e' : k < ((gs.map V.int).length : Int) := of_decide_eq_true e
          rw [List.length_map] at e'
          have hk2 : k.toNat < gs.length := by omega
          have hz : atI (gs.map V.int) k = some (.int gs[k.toNat]) := by
            have key : atI (gs.map V.int) ((k.toNat : Nat) : Int) = some (.int gs[k.toNat]) := atI_nat (by
              rw [List.getElem?_map, List.getElem?_eq_getElem hk2]
              rfl)
            rw [show ((k.toNat : Nat) : Int) = k by omega] at key
            exact key
          refine ⟨_, rfl, _, rfl, D, _, _, _, rfl, rfl, .inl (.inl g4), hz, ?_⟩
        all_goals
          intro m nm
          have h3m : p3 ≠ m := ne_of_none g3' nm
          refine ⟨_, rfl, _, rfl, _, rfl, _, rfl, _, _, rfl, rfl, (Or.inl ⟨by decide, by decide⟩), _, _, rfl, rfl, (by show 1 ≤ sizeLine; decide), fun l nl => ?_⟩
          have nml : m ≠ l := ne_of_none upd_same nl
          have nl0 : H5 l = none := Same.free (Same.new nm) nl
          refine ⟨p3, l, cs.map V.int, [V.int (47 * k + 19)], rfl, rfl, ?_, upd_same, ?_, fun u nu => ?_⟩
          · rw [upd_ne (ne_of_none g3' nl0), upd_ne h3m]
            exact g3'
          · rw [List.length_map]
            exact small (by show cs.length + 1 ≤ 1000; omega)
          have nmu : m ≠ u := ne_of_none (by rw [upd_ne nml]; exact upd_same) nu
          have nu0 : H5 u = none := Same.free (Same.put (Same.new nm) nl0) nu
          refine ⟨?_, mk4 _ y u 0, rfl, (by show 4 ≤ 15; decide), ?_⟩
          · rw [upd_ne nmu, upd_ne nml]
            exact upd_same
          rw [m4_merge]
          have hm0 : H m = none := Same.free sB nm
          have hl0 : H l = none := Same.free sB nl0
          have hu0 : H u = none := Same.free sB nu0
          refine q _ m u (Same.put (Same.put (Same.put (Same.put sB hm0) hl0) hu0) hm0) hm0 hu0 ⟨_, y, cs ++ [47 * k + 19], 0, upd_same, Nat.le_refl _, ?_, ?_⟩
          · rw [upd_ne (fun z => nmu z.symm), upd_same, List.map_append]
            rfl
          · rw [List.length_append]
            exact Nat.lt_of_lt_of_le (by decide : 0 < 1) (Nat.le_add_left _ _)
end
end K53
set_option Elab.async false
set_option linter.all false
set_option maxRecDepth 100000
set_option maxHeartbeats 4000000
namespace K53
open PySem PySem.Spec PyProof.Rows L2 Gd QM EcM EcP
section
variable {P : Program} {w : World} {K : PySem.W.Frag} {mg : Str → Option Value} {base : Heap}
def sp_concord_curve (K : PySem.W.Frag) : Sp := fun vs H Q _ => ∃ m n : Int, vs = [.int m, .int n] ∧ B 100 m ∧ B 100 n ∧ ∀ t, H t = none → Q (.ref t) (upd H t (.tup [.int (m + n), .int (m * n), .int 0]))
abbrev s_concord_curve : Stmt := topS 13
theorem sc_concord_curve : FnScope ["m", "n"] ["m", "n"] (defScope s_concord_curve) := ⟨rfl, rfl, rfl, by decide +kernel, rfl, by decide +kernel, by decide +kernel⟩
theorem k_concord_curve (T : Tx K mg) (D : Df K mg "concord_curve" s_concord_curve ["m", "n"])  : Kl P w K mg base 1 "concord_curve" (sp_concord_curve K) := by
  have nd := sc_concord_curve.nd
  refine Kl.by_body D sc_concord_curve (fun vs H Q E h => ?_) (fun f cdv A outer s H vs Q E hr h => ?_)
  · obtain ⟨_, _, rfl, _⟩ := h
    rfl
  · obtain ⟨m, n, rfl, hm, hn, q⟩ := h
    have hu1 := hu_of hr
    refine ⟨_, (pss_one (ps_ret (pe_tup (pa_cons (pe_op op_add (pv 0) (pv 1)) (pa_cons (pe_op op_mulW (pv 0) (pv 1)) (pa_cons pe_int pa_nil)))))), ?_⟩
    exact ⟨_, rfl, _, rfl, _, _, rfl, rfl, _, rfl, _, rfl, _, _, rfl, rfl, hm.mulW hn (by decide), (by show 3 ≤ sizeLine; decide), fun t nt => q t nt⟩
def sp_concord_of (K : PySem.W.Frag) : Sp := fun vs H Q _ => ∃ (m n : Int) (p : Addr) (S : Pt), vs = [.int m, .int n, .ref p] ∧ B 20 m ∧ B 20 n ∧ PtT K H p S ∧ HB 3800 S ∧ ∀ o v H', Con m n S o → Same H H' → TrO K H' v o → Q v H'
abbrev s_concord_of : Stmt := topS 14
theorem sc_concord_of : FnScope ["m", "n", "point", "roots", "k"] ["m", "n", "point"] (defScope s_concord_of) := ⟨rfl, rfl, rfl, by decide +kernel, rfl, by decide +kernel, by decide +kernel⟩
theorem k_concord_of (T : Tx K mg) (D : Df K mg "concord_of" s_concord_of ["m", "n", "point"]) (c_root_of_fraction : Kl P w K mg base 4 "root_of_fraction" (sp_root_of_fraction K)) (c_plus : Kl P w K mg base 2 "plus" (sp_plus K)) : Kl P w K mg base 5 "concord_of" (sp_concord_of K) := by
  have nd := sc_concord_of.nd
  refine Kl.by_body D sc_concord_of (fun vs H Q E h => ?_) (fun f cdv A outer s H vs Q E hr h => ?_)
  · obtain ⟨_, _, _, _, rfl, _⟩ := h
    rfl
  · obtain ⟨m, n, p, S, rfl, hm, hn, hp, hB, q⟩ := h
    have hu1 := hu_of hr
    refine ⟨_, (pss_cons (ps_if (PW.pt (pw_or (pt_cmpR (op_eqD hr.units) (pv 2) (pe_tup pa_nil) (nomark _)) (pw_or1 (pt_cmpR (op_eqD hr.units) (pe_ix ix_tup (pv 2) pe_int (fun _ _ => rfl)) (pe_tup (pa_cons pe_int (pa_cons pe_int pa_nil))) (nomark _))))) (pss_one (ps_ret pe_non)) pss_nil)
      (pss_cons (ps_setLc (i := 3) (own := [("k", 4)]) (g := gName 4) rfl nd rfl rfl (sw_true rfl rfl rfl (by decide +kernel)) (pi_tup (pe_tup (pa_cons pe_int (pa_cons (pv 0) (pa_cons (pv 1) pa_nil))))) (blkOk_by (N := ["m", "n", "point", "roots", "k"]) (sc := defScope s_concord_of) (by decide +kernel)) (fun _ _ _ _ _ => (pg_name (i := 4) nd rfl (by first | exact Or.inl rfl | exact Or.inr rfl))) (fun _ _ _ _ _ => pts_nil) (fun _ _ _ _ _ => (pe_k c_root_of_fraction  hr (by decide) (by rfl) (pa_cons (pe_k c_plus  hr (by decide) (by rfl) (pa_cons (pe_ix (ix_tupK (K := K) rfl) (pv 2) pe_int (fun _ _ => rfl)) (pa_cons (pe_tup (pa_cons (pv 4) (pa_cons pe_int pa_nil))) pa_nil))) (pa_cons pe_int pa_nil)))))
      (pss_one (ps_ret (pe_ifExp (pt_cmpR (op_noneInT hr.units) pe_non (pv 3) rfl) pe_non (pe_callTy call_tuple_of (by rfl) T.tuple (by decide +kernel) (pa_cons (pv 3) pa_nil))))))), ?_⟩
    refine ⟨_, rfl, (by show 0 ≤ sizeLine; decide), fun e ne => ?_⟩
    have s1 := Same.new (H := H) (p := e) (o := .tup []) ne
    have ge : upd H e (.tup []) e = some (.tup []) := upd_same
    generalize upd H e (.tup []) = H1 at s1 ge ⊢
    cases S with
    | none =>
      refine ⟨dP none, .tuple [], dp_pt (hp.same s1), dp0 (tup_of ge), sh_P none, rfl, _, rfl, iteT ?_⟩
      exact q none _ _ rfl s1 rfl
    | some S =>
      obtain ⟨x, y⟩ := S
      obtain ⟨a, b, h1, h2, h3⟩ := hp
      refine ⟨dP (some (x, y)), .tuple [], dp_pt ⟨a, b, Same.tup s1 h1, Same.tup s1 h2, Same.tup s1 h3⟩, dp0 (tup_of ge), sh_P (some (x, y)), rfl, _, rfl, iteF ?_⟩
      refine ⟨_, rfl, p, _, 0, .ref a, rfl, rfl, Same.tup s1 h1, rfl, (by show 2 ≤ sizeLine; decide), fun z nz => ?_⟩
      have s2 := Same.new (H := H1) (p := z) (o := .tup [.int 0, .int 1]) nz
      have gz : upd H1 z (.tup [.int 0, .int 1]) z = some (.tup [.int 0, .int 1]) := upd_same
      generalize upd H1 z (.tup [.int 0, .int 1]) = H2 at s2 gz ⊢
      have s02 := s1.trans s2
      refine ⟨dq x, dq 0, dp_q (Same.tup s02 h2), dp_q (q := 0) (tup_of gz), rfl, rfl, _, rfl, ?_⟩
      rw [eqv_q]
      have h1' := Same.tup s02 h1
      have h2' := Same.tup s02 h2
      by_cases x0 : x = 0
      · refine iteY (decide_eq_true x0) ?_
        exact q none _ _ (.inl ⟨x0, rfl⟩) s02 rfl
      refine iteN (by simpa using x0) ?_
      replace hB : RB 3800 x := hB
      refine ⟨_, rfl, _, rfl, (by show 3 ≤ sizeLine; decide), fun tz ntz => ?_⟩
      have s3 := Same.new (H := H2) (p := tz) (o := .tup [.int 0, .int m, .int n]) ntz
      have gtz : upd H2 tz (.tup [.int 0, .int m, .int n]) tz = some (.tup [.int 0, .int m, .int n]) := upd_same
      generalize upd H2 tz (.tup [.int 0, .int m, .int n]) = H3 at s3 gtz ⊢
      have s03 := s02.trans s3
      refine ⟨tz, rfl, ⟨_, tup_of gtz⟩, fun D hD => ?_⟩
      refine lc_tup (K := K) (a := tz) (xs := [.int 0, .int m, .int n]) (fun i H4 => Same H3 H4 ∧ RtD H4 D x [0, m, n] i) ⟨Same.new hD, RtD.new⟩ (fun i H4 _ z => tup_of (z.1 _ _ gtz)) (fun i v H4 hi z => ?_) (fun H4 z => ?_)
      · obtain ⟨s4, hd⟩ := z
        obtain ⟨k, hk, rfl⟩ : ∃ k : Int, [0, m, n][i]? = some k ∧ v = .int k := by
          rcases (show i = 0 ∨ i = 1 ∨ i = 2 ∨ 3 ≤ i by omega) with rfl | rfl | rfl | z
          · exact ⟨0, rfl, (Option.some.inj hi).symm⟩
          · exact ⟨m, rfl, (Option.some.inj hi).symm⟩
          · exact ⟨n, rfl, (Option.some.inj hi).symm⟩
          · rw [List.getElem?_eq_none (by simpa using z)] at hi
            cases hi
        have hkB : B 20 k := by
          have := List.mem_of_getElem? hk
          simp only [List.mem_cons, List.not_mem_nil, or_false] at this
          rcases this with rfl | rfl | rfl
          · exact B.lit (by decide)
          · exact hm
          · exact hn
        have hi3 : i < 3 := by
          have := (List.getElem?_eq_some_iff.mp hk).1
          simpa using this
        have s04 := s03.trans s4
        refine ⟨rfl, _, rfl, p, _, 0, .ref a, rfl, rfl, Same.tup s04 h1, rfl, _, rfl, (by show 2 ≤ sizeLine; decide), fun c nc => ?_⟩
        have s5 := Same.new (H := H4) (p := c) (o := .tup [.int k, .int 1]) nc
        have gc : upd H4 c (.tup [.int k, .int 1]) c = some (.tup [.int k, .int 1]) := upd_same
        generalize upd H4 c (.tup [.int k, .int 1]) = H5 at s5 gc ⊢
        have hkR : RB 20 ((k : Int) : Rat) := RB.int hkB (by decide)
        refine ⟨a, c, x, (k : Rat), rfl, Same.tup (s04.trans s5) h2, tup_of (by rw [fq_int]; exact gc), hB.up (by decide), hkR.up (by decide), trivial, fun t nt => ?_⟩
        have s6 := Same.new (H := H5) (p := t) (o := .tup (fq (x + (k : Rat)))) nt
        have gt : upd H5 t (.tup (fq (x + (k : Rat)))) t = some (.tup (fq (x + (k : Rat)))) := upd_same
        generalize upd H5 t (.tup (fq (x + (k : Rat)))) = H6 at s6 gt ⊢
        refine ⟨t, x + (k : Rat), rfl, tup_of gt, (RB.add hB hkR).up (by decide), fun hN => ?_, fun r t2 hr rb nt2 => ?_⟩
        · obtain ⟨acc, g1, g2, g3⟩ := hd.push (v := .non) (o := none) (s5.trans s6) hk hN rfl (by omega)
          exact ⟨acc, g1, g2, Same.put (s4.trans (s5.trans s6)) hD, g3⟩
        · skip
          have s7 := Same.new (H := H6) (p := t2) (o := .tup (fq r)) nt2
          have gt2 : upd H6 t2 (.tup (fq r)) t2 = some (.tup (fq r)) := upd_same
          generalize upd H6 t2 (.tup (fq r)) = H7 at s7 gt2 ⊢
          obtain ⟨acc, g1, g2, g3⟩ := hd.push (v := .ref t2) (o := some r) (s5.trans (s6.trans s7)) hk hr ⟨t2, rfl, gt2⟩ (by omega)
          exact ⟨acc, g1, g2, Same.put (s4.trans (s5.trans (s6.trans s7))) hD, g3⟩
      · obtain ⟨s4, hd⟩ := z
        obtain ⟨u, v, w, o0, o1, o2, gD, q0, q1, q2, t0, t1, t2⟩ := hd.three
        rw [show x + ((0 : Int) : Rat) = x by grind] at q0
        have hcon : ∀ o, o = comb o0 o1 o2 → Con m n (some (x, y)) o := fun o e => .inr ⟨x0, o0, o1, o2, q0, q1, q2, e⟩
        have s04 := s03.trans s4
        refine ⟨_, rfl, D, [u, v, w], rfl, rfl, lst_of gD, fun z hz => ?_, _, rfl, ?_⟩
        · simp only [List.mem_cons, List.not_mem_nil, or_false] at hz
          rcases hz with rfl | rfl | rfl
          · exact t0.nt
          · exact t1.nt
          · exact t2.nt
        have ea : [u, v, w].any isNon = (o0.isNone || (o1.isNone || o2.isNone)) := by
          simp only [List.any_cons, List.any_nil, Bool.or_false]
          rw [t0.isn, t1.isn, t2.isn]
        rw [ea]
        match o0, o1, o2, t0, t1, t2, hcon with
        | none, _, _, _, _, _, hcon =>
          refine iteY rfl ?_
          exact q none _ _ (hcon _ rfl) s04 rfl
        | some r0, none, _, _, _, _, hcon =>
          refine iteY rfl ?_
          exact q none _ _ (hcon _ rfl) s04 rfl
        | some r0, some r1, none, _, _, _, hcon =>
          refine iteY rfl ?_
          exact q none _ _ (hcon _ rfl) s04 rfl
        | some r0, some r1, some r2, t0, t1, t2, hcon =>
          refine iteN Bool.false_ne_true ?_
          obtain ⟨a0, rfl, g0⟩ := t0
          obtain ⟨a1, rfl, g1⟩ := t1
          obtain ⟨a2, rfl, g2⟩ := t2
          refine ⟨_, rfl, D, _, rfl, .inl ⟨lst_of gD, fun t nt => ?_⟩⟩
          have st := Same.new (H := H4) (p := t) (o := .tup [.ref a0, .ref a1, .ref a2]) nt
          exact q (some (r0, r1, r2)) _ _ (hcon _ rfl) (s04.trans st) ⟨t, rfl, a0, a1, a2, tup_of upd_same, tup_of (st _ _ g0), tup_of (st _ _ g1), tup_of (st _ _ g2)⟩
def sp_concord_point (K : PySem.W.Frag) : Sp := fun vs H Q _ => ∃ (m n : Int) (p : Addr) (c : C3), vs = [.int m, .int n, .ref p] ∧ TrT K H p c ∧ RB 900 c.1 ∧ RB 900 c.2.1 ∧ RB 900 c.2.2 ∧ ∀ t H', Same H H' → PtT K H' t (some (c.1 * c.1, c.1 * (c.2.1 * c.2.2))) → Q (.ref t) H'
abbrev s_concord_point : Stmt := topS 15
theorem sc_concord_point : FnScope ["m", "n", "concord", "t", "u", "v"] ["m", "n", "concord"] (defScope s_concord_point) := ⟨rfl, rfl, rfl, by decide +kernel, rfl, by decide +kernel, by decide +kernel⟩
theorem k_concord_point (T : Tx K mg) (D : Df K mg "concord_point" s_concord_point ["m", "n", "concord"]) (c_times : Kl P w K mg base 2 "times" (sp_times K)) (c_product : Kl P w K mg base 3 "product" (sp_product K)) : Kl P w K mg base 4 "concord_point" (sp_concord_point K) := by
  have nd := sc_concord_point.nd
  refine Kl.by_body D sc_concord_point (fun vs H Q E h => ?_) (fun f cdv A outer s H vs Q E hr h => ?_)
  · obtain ⟨_, _, _, _, rfl, _⟩ := h
    rfl
  · obtain ⟨m, n, p, ⟨c1, c2, c3⟩, rfl, ⟨a, b, d, h0, h1, h2, h3⟩, b1, b2, b3, q⟩ := h
    have hu1 := hu_of hr
    refine ⟨_, (pss_cons (ps_asg (pv 2) (pg_tup rfl (pgs_cons (pg_name (i := 3) nd rfl (by first | exact Or.inl rfl | exact Or.inr rfl)) (pgs_cons (pg_name (i := 4) nd rfl (by first | exact Or.inl rfl | exact Or.inr rfl)) (pgs_cons (pg_name (i := 5) nd rfl (by first | exact Or.inl rfl | exact Or.inr rfl)) pgs_nil)))))
      (pss_one (ps_ret (pe_tup (pa_cons (pe_k c_times  hr (by decide) (by rfl) (pa_cons (pv 3) (pa_cons (pv 3) pa_nil))) (pa_cons (pe_k c_product  hr (by decide) (by rfl) (pa_cons (pe_lst (pa_cons (pv 3) (pa_cons (pv 4) (pa_cons (pv 5) pa_nil)))) pa_nil)) pa_nil)))))), ?_⟩
    replace h1 : SqT K H a (fq c1) := h1
    replace h2 : SqT K H b (fq c2) := h2
    replace h3 : SqT K H d (fq c3) := h3
    replace b1 : RB 900 c1 := b1
    replace b2 : RB 900 c2 := b2
    replace b3 : RB 900 c3 := b3
    refine ⟨_, rfl, p, _, rfl, h0, rfl, _, _, rfl, _, _, rfl, _, _, rfl, rfl, ?_⟩
    refine ⟨_, rfl, _, rfl, a, a, c1, c1, rfl, h1, h1, b1.up (by decide), b1.up (by decide), trivial, fun t nt => ?_⟩
    have s1 := Same.new (H := H) (p := t) (o := .tup (fq (c1 * c1))) nt
    have gt : upd H t (.tup (fq (c1 * c1))) t = some (.tup (fq (c1 * c1))) := upd_same
    generalize upd H t (.tup (fq (c1 * c1))) = H1 at s1 gt ⊢
    refine ⟨_, rfl, _, rfl, _, rfl, (by show 3 ≤ sizeLine; decide), fun l nl => ?_⟩
    have s2 := Same.new (H := H1) (p := l) (o := .lst [.ref a, .ref b, .ref d]) nl
    have gl : upd H1 l (.lst [.ref a, .ref b, .ref d]) l = some (.lst [.ref a, .ref b, .ref d]) := upd_same
    generalize upd H1 l (.lst [.ref a, .ref b, .ref d]) = H2 at s2 gl ⊢
    have s02 := s1.trans s2
    refine ⟨l, [(a, c1), (b, c2), (d, c3)], 900, rfl, lst_of gl, fun x hx => ?_, (by show 3 * (900 + 1) ≤ 3900; decide), fun H3 r s3 nr gr br => ?_⟩
    · simp only [List.mem_cons, List.not_mem_nil, or_false] at hx
      rcases hx with rfl | rfl | rfl
      · exact ⟨Same.tup s02 h1, b1⟩
      · exact ⟨Same.tup s02 h2, b2⟩
      · exact ⟨Same.tup s02 h3, b3⟩
    have e : List.foldl (fun x (p : Addr × Rat) => x * p.2) 1 [(a, c1), (b, c2), (d, c3)] = c1 * (c2 * c3) := by
      show 1 * c1 * c2 * c3 = _
      grind
    rw [e] at gr
    refine ⟨(by show 2 ≤ sizeLine; decide), fun z nz => ?_⟩
    have sz := Same.new (H := H3) (p := z) (o := .tup [.ref t, .ref r]) nz
    exact q z _ (s02.trans (s3.trans sz)) ⟨t, r, tup_of upd_same, tup_of ((s2.trans (s3.trans sz)) _ _ gt), tup_of (sz _ _ gr)⟩
def sp_angled_of (K : PySem.W.Frag) : Sp := fun vs H Q _ => ∃ (p : Addr) (c : C3), vs = [.ref p] ∧ TrT K H p c ∧ RB 900 c.1 ∧ RB 900 c.2.1 ∧ RB 900 c.2.2 ∧ ∀ t H', Same H H' → TrT K H' t (c.2.1 + c.2.2, c.2.1 - c.2.2, 2 * c.1) → Q (.ref t) H'
abbrev s_angled_of : Stmt := topS 16
theorem sc_angled_of : FnScope ["concord", "t", "u", "v"] ["concord"] (defScope s_angled_of) := ⟨rfl, rfl, rfl, by decide +kernel, rfl, by decide +kernel, by decide +kernel⟩
theorem k_angled_of (T : Tx K mg) (D : Df K mg "angled_of" s_angled_of ["concord"]) (c_plus : Kl P w K mg base 2 "plus" (sp_plus K)) (c_less : Kl P w K mg base 2 "less" (sp_less K)) (c_times : Kl P w K mg base 2 "times" (sp_times K)) : Kl P w K mg base 3 "angled_of" (sp_angled_of K) := by
  have nd := sc_angled_of.nd
  refine Kl.by_body D sc_angled_of (fun vs H Q E h => ?_) (fun f cdv A outer s H vs Q E hr h => ?_)
  · obtain ⟨_, _, rfl, _⟩ := h
    rfl
  · obtain ⟨p, ⟨c1, c2, c3⟩, rfl, ⟨a, b, d, h0, h1, h2, h3⟩, b1, b2, b3, q⟩ := h
    have hu1 := hu_of hr
    refine ⟨_, (pss_cons (ps_asg (pv 0) (pg_tup rfl (pgs_cons (pg_name (i := 1) nd rfl (by first | exact Or.inl rfl | exact Or.inr rfl)) (pgs_cons (pg_name (i := 2) nd rfl (by first | exact Or.inl rfl | exact Or.inr rfl)) (pgs_cons (pg_name (i := 3) nd rfl (by first | exact Or.inl rfl | exact Or.inr rfl)) pgs_nil)))))
      (pss_one (ps_ret (pe_tup (pa_cons (pe_k c_plus  hr (by decide) (by rfl) (pa_cons (pv 2) (pa_cons (pv 3) pa_nil))) (pa_cons (pe_k c_less  hr (by decide) (by rfl) (pa_cons (pv 2) (pa_cons (pv 3) pa_nil))) (pa_cons (pe_k c_times  hr (by decide) (by rfl) (pa_cons (pe_tup (pa_cons pe_int (pa_cons pe_int pa_nil))) (pa_cons (pv 1) pa_nil))) pa_nil))))))), ?_⟩
    replace h1 : SqT K H a (fq c1) := h1
    replace h2 : SqT K H b (fq c2) := h2
    replace h3 : SqT K H d (fq c3) := h3
    replace b1 : RB 900 c1 := b1
    replace b2 : RB 900 c2 := b2
    replace b3 : RB 900 c3 := b3
    refine ⟨_, rfl, p, _, rfl, h0, rfl, _, _, rfl, _, _, rfl, _, _, rfl, rfl, ?_⟩
    refine ⟨_, rfl, _, rfl, b, d, c2, c3, rfl, h2, h3, b2.up (by decide), b3.up (by decide), trivial, fun t nt => ?_⟩
    have s1 := Same.new (H := H) (p := t) (o := .tup (fq (c2 + c3))) nt
    have gt : upd H t (.tup (fq (c2 + c3))) t = some (.tup (fq (c2 + c3))) := upd_same
    generalize upd H t (.tup (fq (c2 + c3))) = H1 at s1 gt ⊢
    refine ⟨_, rfl, _, rfl, b, d, c2, c3, rfl, Same.tup s1 h2, Same.tup s1 h3, b2.up (by decide), b3.up (by decide), trivial, fun u nu => ?_⟩
    have s2 := Same.new (H := H1) (p := u) (o := .tup (fq (c2 - c3))) nu
    have gu : upd H1 u (.tup (fq (c2 - c3))) u = some (.tup (fq (c2 - c3))) := upd_same
    generalize upd H1 u (.tup (fq (c2 - c3))) = H2 at s2 gu ⊢
    refine ⟨(by show 2 ≤ sizeLine; decide), fun c nc => ?_⟩
    have s3 := Same.new (H := H2) (p := c) (o := .tup [.int 2, .int 1]) nc
    have gc : upd H2 c (.tup [.int 2, .int 1]) c = some (.tup [.int 2, .int 1]) := upd_same
    generalize upd H2 c (.tup [.int 2, .int 1]) = H3 at s3 gc ⊢
    have s03 := s1.trans (s2.trans s3)
    refine ⟨_, rfl, c, a, 2, c1, rfl, tup_of (xs := fq 2) gc, Same.tup s03 h1, (RB.int (m := 2) (n := 2) (by decide) (by decide)).up (by decide), b1.up (by decide), trivial, fun v nv => ?_⟩
    have s4 := Same.new (H := H3) (p := v) (o := .tup (fq (2 * c1))) nv
    have gv : upd H3 v (.tup (fq (2 * c1))) v = some (.tup (fq (2 * c1))) := upd_same
    generalize upd H3 v (.tup (fq (2 * c1))) = H4 at s4 gv ⊢
    refine ⟨(by show 3 ≤ sizeLine; decide), fun z nz => ?_⟩
    have sz := Same.new (H := H4) (p := z) (o := .tup [.ref t, .ref u, .ref v]) nz
    exact q z _ (s03.trans (s4.trans sz)) ⟨t, u, v, tup_of upd_same, tup_of ((s2.trans (s3.trans (s4.trans sz))) _ _ gt), tup_of ((s3.trans (s4.trans sz)) _ _ gu), tup_of (sz _ _ gv)⟩
end
end K53
set_option Elab.async false
set_option linter.all false
set_option maxRecDepth 100000
set_option maxHeartbeats 4000000
namespace K53
open PySem PySem.Spec PyProof.Rows L2 Gd QM EcM EcP
local macro_rules | `(tactic| walk_at "mm") => `(tactic| (repeat (first | exact List.mem_cons_self | apply List.mem_cons_of_mem)))
theorem fq_2 : [V.int 2, V.int 1] = fq 2 := rfl
theorem fq_3 : [V.int 3, V.int 1] = fq 3 := rfl
theorem fq_0 : [V.int 0, V.int 1] = fq 0 := rfl
theorem rb_two : RB 2 (2 : Rat) := ⟨by decide, by decide⟩
theorem rb_three : RB 2 (3 : Rat) := ⟨by decide, by decide⟩
/-- the five numbers of a curve -/
def FivT (K : PySem.W.Frag) (H : Hp) (f : Addr) (e : Ec) : Prop := SqT K H f [.int 0, .int e.a, .int 0, .int e.b, .int e.c]
theorem FivT.same {K : PySem.W.Frag} {H H' : Hp} {f : Addr} {e : Ec} (h : FivT K H f e) (s : Same H H') : FivT K H' f e := Same.tup s h
theorem neg_fq (y : Rat) : [V.int (-y.num), V.int (y.den : Int)] = fq (-y) := by
  unfold fq
  rw [Rat.neg_num, Rat.neg_den]
theorem sq_eq {K : PySem.W.Frag} {H : Hp} {p : Addr} {a b : Rat} (h : SqT K H p (fq a)) (e : a = b) : SqT K H p (fq b) := e ▸ h
section
variable {P : Program} {w : World} {K : PySem.W.Frag} {mg : Str → Option Value} {base : Heap}
/-! ### the five numbers -/
def sp_law_five (K : PySem.W.Frag) : Sp := fun vs H Q _ => ∃ (p : Addr) (a b c : Int), vs = [.ref p] ∧ SqT K H p [.int a, .int b, .int c] ∧ ∀ t, H t = none → Q (.ref t) (upd H t (.tup [.int 0, .int a, .int 0, .int b, .int c]))
abbrev s__law_five : Stmt := topS 29
theorem sc__law_five : FnScope ["curve"] ["curve"] (defScope s__law_five) := ⟨rfl, rfl, rfl, by decide +kernel, rfl, by decide +kernel, by decide +kernel⟩
theorem k_law_five (T : Tx K mg) (D : Df K mg "_law_five" s__law_five ["curve"])  : Kl P w K mg base 1 "_law_five" (sp_law_five K) := by
  have nd := sc__law_five.nd
  refine Kl.by_body D sc__law_five (fun vs H Q E h => ?_) (fun f cdv A outer s H vs Q E hr h => ?_)
  · obtain ⟨_, _, _, _, rfl, _⟩ := h
    rfl
  · obtain ⟨p, a, b, c, rfl, hp, q⟩ := h
    have hu1 := hu_of hr
    refine ⟨_, (pss_one (ps_ret (pe_ifExp (pt_cmpR op_eq (pe_callB call_len_seq (by rfl) T.len (by decide +kernel) (pa_cons (pv 0) pa_nil)) pe_int (nomark _)) (pe_tup (pa_cons pe_int (pa_cons (pe_ix ix_tup (pv 0) pe_int (fun _ _ => rfl)) (pa_cons pe_int (pa_cons (pe_ix ix_tup (pv 0) pe_int (fun _ _ => rfl)) (pa_cons (pe_ix ix_tup (pv 0) pe_int (fun _ _ => rfl)) pa_nil)))))) (pv 0)))), ?_⟩
    refine ⟨.ref p, rfl, p, _, rfl, .inr hp, rfl, _, rfl, iteY (by rfl) ?_⟩
    refine ⟨.ref p, rfl, p, _, 0, _, rfl, rfl, hp, rfl, .ref p, rfl, p, _, 1, _, rfl, rfl, hp, rfl, .ref p, rfl, p, _, 2, _, rfl, rfl, hp, rfl, (by show 5 ≤ sizeLine; decide), fun t nt => q t nt⟩
/-! ### the bent -/
def sp_law_bent (K : PySem.W.Frag) : Sp := fun vs H Q _ => ∃ (f p : Addr) (e : Ec) (x : Rat), vs = [.ref f, .ref p] ∧ FivT K H f e ∧ SqT K H p (fq x) ∧ RB 4000 x ∧ ∀ t, H t = none → Q (.ref t) (upd H t (.tup (fq 0)))
abbrev s__law_bent : Stmt := topS 31
theorem sc__law_bent : FnScope ["five", "x"] ["five", "x"] (defScope s__law_bent) := ⟨rfl, rfl, rfl, by decide +kernel, rfl, by decide +kernel, by decide +kernel⟩
theorem k_law_bent (T : Tx K mg) (D : Df K mg "_law_bent" s__law_bent ["five", "x"]) (c_law_cut : Kl P w K mg base 2 "_law_cut" (sp_law_cut K)) : Kl P w K mg base 3 "_law_bent" (sp_law_bent K) := by
  have nd := sc__law_bent.nd
  refine Kl.by_body D sc__law_bent (fun vs H Q E h => ?_) (fun f cdv A outer s H vs Q E hr h => ?_)
  · obtain ⟨_, _, _, _, rfl, _⟩ := h
    rfl
  · obtain ⟨f, p, e, x, rfl, hf, hp, hx, q⟩ := h
    have hu1 := hu_of hr
    refine ⟨_, (pss_one (ps_ret (pe_k c_law_cut  hr (by decide) (by rfl) (pa_cons (pe_op op_add (pe_op op_mulW (pe_ix ix_tup (pv 0) pe_int (fun _ _ => rfl)) (pe_ix ix_tup (pv 1) pe_int (fun _ _ => rfl))) (pe_op op_mulW (pe_ix ix_tup (pv 0) pe_int (fun _ _ => rfl)) (pe_ix ix_tup (pv 1) pe_int (fun _ _ => rfl)))) (pa_cons (pe_ix ix_tup (pv 1) pe_int (fun _ _ => rfl)) pa_nil))))), ?_⟩
    refine ⟨_, rfl, f, _, 0, .int 0, rfl, rfl, hf, rfl, .ref p, rfl, p, _, 0, _, rfl, rfl, hp, rfl, _, _, rfl, rfl, (B.lit (n := 1) (by decide)).mulW hx.n (by decide), .ref f, rfl, f, _, 2, .int 0, rfl, rfl, hf, rfl, .ref p, rfl, p, _, 1, _, rfl, rfl, hp, rfl, _, _, rfl, rfl, (B.lit (n := 1) (by decide)).mulW hx.d (by decide), _, _, rfl, rfl, .ref p, rfl, p, _, 1, _, rfl, rfl, hp, rfl, 0 * x.num + 0 * (x.den : Int), (x.den : Int), rfl, den_ne x, ?_, hx.d.up (by decide), fun t nt => ?_⟩
    · rw [Int.zero_mul, Int.zero_mul]
      exact B.lit (by decide)
    · rw [Int.zero_mul, Int.zero_mul, Int.add_zero, Rat.zero_divInt]
      exact q t nt
/-! ### the point turned -/
def PB (m : Nat) : Pt → Prop
  | none => True
  | some (x, y) => RB m x ∧ RB m y
def sp_law_turned (K : PySem.W.Frag) : Sp := fun vs H Q _ => ∃ (f p : Addr) (e : Ec) (S : Pt), vs = [.ref f, .ref p] ∧ FivT K H f e ∧ PtT K H p S ∧ PB 3000 S ∧ ∀ t H', Same H H' → PtT K H' t (neg S) → Q (.ref t) H'
abbrev s__law_turned : Stmt := topS 33
theorem sc__law_turned : FnScope ["five", "point"] ["five", "point"] (defScope s__law_turned) := ⟨rfl, rfl, rfl, by decide +kernel, rfl, by decide +kernel, by decide +kernel⟩
theorem k_law_turned (T : Tx K mg) (D : Df K mg "_law_turned" s__law_turned ["five", "point"]) (c_law_less : Kl P w K mg base 3 "_law_less" (sp_law_less K)) (c_law_bent : Kl P w K mg base 3 "_law_bent" (sp_law_bent K)) : Kl P w K mg base 4 "_law_turned" (sp_law_turned K) := by
  have nd := sc__law_turned.nd
  refine Kl.by_body D sc__law_turned (fun vs H Q E h => ?_) (fun f cdv A outer s H vs Q E hr h => ?_)
  · obtain ⟨_, _, _, _, rfl, _⟩ := h
    rfl
  · obtain ⟨f, p, e, S, rfl, hf, hp, hB, q⟩ := h
    have hu1 := hu_of hr
    refine ⟨_, (pss_cons (ps_if (pt_cmpR (op_eqD hr.units) (pv 1) (pe_tup pa_nil) (nomark _)) (pss_one (ps_ret (pe_tup pa_nil))) pss_nil)
      (pss_one (ps_ret (pe_tup (pa_cons (pe_ix ix_tup (pv 1) pe_int (fun _ _ => rfl)) (pa_cons (pe_k c_law_less  hr (by decide) (by rfl) (pa_cons (pe_tup (pa_cons (pe_un un_neg (pe_ix ix_tup (pe_ix ix_tup (pv 1) pe_int (fun _ _ => rfl)) pe_int (fun _ _ => rfl))) (pa_cons (pe_ix ix_tup (pe_ix ix_tup (pv 1) pe_int (fun _ _ => rfl)) pe_int (fun _ _ => rfl)) pa_nil))) (pa_cons (pe_k c_law_bent  hr (by decide) (by rfl) (pa_cons (pv 0) (pa_cons (pe_ix ix_tup (pv 1) pe_int (fun _ _ => rfl)) pa_nil))) pa_nil))) pa_nil)))))), ?_⟩
    refine ⟨_, rfl, (by show 0 ≤ sizeLine; decide), fun z nz => ?_⟩
    have s1 := Same.new (H := H) (p := z) (o := .tup []) nz
    have gz : upd H z (.tup []) z = some (.tup []) := upd_same
    generalize upd H z (.tup []) = H1 at s1 gz ⊢
    match S, hp, hB, q with
    | none, hp, hB, q =>
      refine ⟨dP none, .tuple [], dp_pt (hp.same s1), dp0 (tup_of gz), sh_P none, rfl, _, rfl, iteT ?_⟩
      refine ⟨(by show 0 ≤ sizeLine; decide), fun t nt => ?_⟩
      exact q t _ (s1.trans (Same.new nt)) (tup_of upd_same)
    | some (x, y), ⟨a, b, h1, h2, h3⟩, ⟨bx, byy⟩, q =>
      refine ⟨dP (some (x, y)), .tuple [], dp_pt ⟨a, b, Same.tup s1 h1, Same.tup s1 h2, Same.tup s1 h3⟩, dp0 (tup_of gz), sh_P (some (x, y)), rfl, _, rfl, iteF ?_⟩
      have h1' := Same.tup s1 h1
      have h3' := Same.tup s1 h3
      refine ⟨_, rfl, p, _, 0, .ref a, rfl, rfl, h1', rfl, .ref p, rfl, p, _, 1, .ref b, rfl, rfl, h1', rfl, b, _, 0, _, rfl, rfl, h3', rfl, _, rfl, .ref p, rfl, p, _, 1, .ref b, rfl, rfl, h1', rfl, b, _, 1, _, rfl, rfl, h3', rfl, (by show 2 ≤ sizeLine; decide), fun c nc => ?_⟩
      have s2 := Same.new (H := H1) (p := c) (o := .tup [.int (-y.num), .int (y.den : Int)]) nc
      have gc : upd H1 c (.tup [.int (-y.num), .int (y.den : Int)]) c = some (.tup [.int (-y.num), .int (y.den : Int)]) := upd_same
      generalize upd H1 c (.tup [.int (-y.num), .int (y.den : Int)]) = H2 at s2 gc ⊢
      rw [neg_fq] at gc
      have s02 := s1.trans s2
      refine ⟨.ref f, rfl, .ref p, rfl, p, _, 0, .ref a, rfl, rfl, Same.tup s02 h1, rfl, f, a, e, x, rfl, hf.same s02, Same.tup s02 h2, bx.up (by decide), fun d nd => ?_⟩
      have s3 := Same.new (H := H2) (p := d) (o := .tup (fq 0)) nd
      have gd : upd H2 d (.tup (fq 0)) d = some (.tup (fq 0)) := upd_same
      generalize upd H2 d (.tup (fq 0)) = H3 at s3 gd ⊢
      refine ⟨c, d, -y, 0, rfl, tup_of (s3 _ _ gc), tup_of gd, byy.neg.up (by decide), RB.zero.up (by decide), trivial, fun t nt => ?_⟩
      have s4 := Same.new (H := H3) (p := t) (o := .tup (fq (-y - 0))) nt
      have gt : upd H3 t (.tup (fq (-y - 0))) t = some (.tup (fq (-y - 0))) := upd_same
      generalize upd H3 t (.tup (fq (-y - 0))) = H4 at s4 gt ⊢
      refine ⟨(by show 2 ≤ sizeLine; decide), fun r nr => ?_⟩
      have s5 := Same.new (H := H4) (p := r) (o := .tup [.ref a, .ref t]) nr
      have s05 := s02.trans (s3.trans (s4.trans s5))
      exact q r _ s05 ⟨a, t, tup_of upd_same, Same.tup s05 h2, sq_eq (tup_of (s5 _ _ gt)) (by grind)⟩
/-! ### the sum -/
def sp_law_sum (K : PySem.W.Frag) : Sp := fun vs H Q _ => ∃ (f p o : Addr) (e : Ec) (S R : Pt), vs = [.ref f, .ref p, .ref o] ∧ FivT K H f e ∧ e.Bd 15 ∧ PtT K H p S ∧ PtT K H o R ∧ On e S ∧ On e R ∧ HB 200 S ∧ HB 200 R ∧ ∀ t H', Same H H' → PtT K H' t (sum e S R) → Q (.ref t) H'
abbrev s__law_sum : Stmt := topS 34
theorem sc__law_sum : FnScope ["five", "one", "two", "x", "y", "upper", "k", "far"] ["five", "one", "two"] (defScope s__law_sum) := ⟨rfl, rfl, rfl, by decide +kernel, rfl, by decide +kernel, by decide +kernel⟩
theorem k_law_sum (T : Tx K mg) (D : Df K mg "_law_sum" s__law_sum ["five", "one", "two"]) (c_law_less : Kl P w K mg base 3 "_law_less" (sp_law_less K)) (c_law_turned : Kl P w K mg base 4 "_law_turned" (sp_law_turned K)) (c_law_plus : Kl P w K mg base 3 "_law_plus" (sp_law_plus K)) (c_law_over : Kl P w K mg base 3 "_law_over" (sp_law_over K)) (c_law_by : Kl P w K mg base 3 "_law_by" (sp_law_by K)) (c_law_bent : Kl P w K mg base 3 "_law_bent" (sp_law_bent K)) : Kl P w K mg base 5 "_law_sum" (sp_law_sum K) := by
  have nd := sc__law_sum.nd
  refine Kl.by_body D sc__law_sum (fun vs H Q E h => ?_) (fun f cdv A outer s H vs Q E hr h => ?_)
  · obtain ⟨_, _, _, _, _, _, rfl, _⟩ := h
    rfl
  · obtain ⟨f, p, o, e, S, R, rfl, hf, hg, hp, ho, onS, onR, hS, hR, q⟩ := h
    have hu1 := hu_of hr
    refine ⟨_, (pss_cons (ps_if (PW.pt (pw_or (pt_cmpR (op_eqD hr.units) (pv 1) (pe_tup pa_nil) (nomark _)) (pw_or1 (pt_cmpR (op_eqD hr.units) (pv 2) (pe_tup pa_nil) (nomark _))))) (pss_one (ps_ret (pe_ifExp (pt_cmpR (op_eqD hr.units) (pv 1) (pe_tup pa_nil) (nomark _)) (pv 2) (pv 1)))) pss_nil)
      (pss_cons (ps_if (pt_cmpR (op_eqD hr.units) (pe_k c_law_turned  hr (by decide) (by rfl) (pa_cons (pv 0) (pa_cons (pv 1) pa_nil))) (pv 2) (nomark _)) (pss_one (ps_ret (pe_tup pa_nil))) pss_nil)
      (pss_cons (ps_asg (pv 1) (pg_tup rfl (pgs_cons (pg_name (i := 3) nd rfl (by first | exact Or.inl rfl | exact Or.inr rfl)) (pgs_cons (pg_name (i := 4) nd rfl (by first | exact Or.inl rfl | exact Or.inr rfl)) pgs_nil))))
      (C8.pss_cut (ps_if (pt_cmpR (op_eqD hr.units) (pv 1) (pv 2) (nomark _)) (pss_cons (ps_set (i := 5) nd rfl (by first | exact Or.inl rfl | exact Or.inr rfl) (pe_k c_law_plus  hr (by decide) (by rfl) (pa_cons (pe_k c_law_by  hr (by decide) (by rfl) (pa_cons (pe_tup (pa_cons pe_int (pa_cons pe_int pa_nil))) (pa_cons (pe_k c_law_by  hr (by decide) (by rfl) (pa_cons (pv 3) (pa_cons (pv 3) pa_nil))) pa_nil))) (pa_cons (pe_k c_law_plus  hr (by decide) (by rfl) (pa_cons (pe_k c_law_by  hr (by decide) (by rfl) (pa_cons (pe_tup (pa_cons (pe_op op_mul pe_int (pe_ix ix_tup (pv 0) pe_int (fun _ _ => rfl))) (pa_cons pe_int pa_nil))) (pa_cons (pv 3) pa_nil))) (pa_cons (pe_tup (pa_cons (pe_ix ix_tup (pv 0) pe_int (fun _ _ => rfl)) (pa_cons pe_int pa_nil))) pa_nil))) pa_nil))))
      (pss_cons (ps_set (i := 5) nd rfl (by first | exact Or.inl rfl | exact Or.inr rfl) (pe_k c_law_less  hr (by decide) (by rfl) (pa_cons (pv 5) (pa_cons (pe_k c_law_by  hr (by decide) (by rfl) (pa_cons (pe_tup (pa_cons (pe_ix ix_tup (pv 0) pe_int (fun _ _ => rfl)) (pa_cons pe_int pa_nil))) (pa_cons (pv 4) pa_nil))) pa_nil))))
      (pss_one (ps_set (i := 6) nd rfl (by first | exact Or.inl rfl | exact Or.inr rfl) (pe_k c_law_over  hr (by decide) (by rfl) (pa_cons (pv 5) (pa_cons (pe_k c_law_plus  hr (by decide) (by rfl) (pa_cons (pe_k c_law_by  hr (by decide) (by rfl) (pa_cons (pe_tup (pa_cons pe_int (pa_cons pe_int pa_nil))) (pa_cons (pv 4) pa_nil))) (pa_cons (pe_k c_law_bent  hr (by decide) (by rfl) (pa_cons (pv 0) (pa_cons (pv 3) pa_nil))) pa_nil))) pa_nil))))))) (pss_one (ps_set (i := 6) nd rfl (by first | exact Or.inl rfl | exact Or.inr rfl) (pe_k c_law_over  hr (by decide) (by rfl) (pa_cons (pe_k c_law_less  hr (by decide) (by rfl) (pa_cons (pe_ix ix_tup (pv 2) pe_int (fun _ _ => rfl)) (pa_cons (pv 4) pa_nil))) (pa_cons (pe_k c_law_less  hr (by decide) (by rfl) (pa_cons (pe_ix ix_tup (pv 2) pe_int (fun _ _ => rfl)) (pa_cons (pv 3) pa_nil))) pa_nil))))))
      (pss_cons (ps_set (i := 7) nd rfl (by first | exact Or.inl rfl | exact Or.inr rfl) (pe_k c_law_less  hr (by decide) (by rfl) (pa_cons (pe_k c_law_plus  hr (by decide) (by rfl) (pa_cons (pe_k c_law_by  hr (by decide) (by rfl) (pa_cons (pv 6) (pa_cons (pv 6) pa_nil))) (pa_cons (pe_k c_law_by  hr (by decide) (by rfl) (pa_cons (pe_tup (pa_cons (pe_ix ix_tup (pv 0) pe_int (fun _ _ => rfl)) (pa_cons pe_int pa_nil))) (pa_cons (pv 6) pa_nil))) pa_nil))) (pa_cons (pe_tup (pa_cons (pe_ix ix_tup (pv 0) pe_int (fun _ _ => rfl)) (pa_cons pe_int pa_nil))) pa_nil))))
      (pss_cons (ps_set (i := 7) nd rfl (by first | exact Or.inl rfl | exact Or.inr rfl) (pe_k c_law_less  hr (by decide) (by rfl) (pa_cons (pe_k c_law_less  hr (by decide) (by rfl) (pa_cons (pv 7) (pa_cons (pv 3) pa_nil))) (pa_cons (pe_ix ix_tup (pv 2) pe_int (fun _ _ => rfl)) pa_nil))))
      (pss_one (ps_ret (pe_k c_law_turned  hr (by decide) (by rfl) (pa_cons (pv 0) (pa_cons (pe_tup (pa_cons (pv 7) (pa_cons (pe_k c_law_plus  hr (by decide) (by rfl) (pa_cons (pv 4) (pa_cons (pe_k c_law_by  hr (by decide) (by rfl) (pa_cons (pv 6) (pa_cons (pe_k c_law_less  hr (by decide) (by rfl) (pa_cons (pv 7) (pa_cons (pv 3) pa_nil))) pa_nil))) pa_nil))) pa_nil))) pa_nil))))))))))), ?_⟩
    refine ⟨_, rfl, (by show 0 ≤ sizeLine; decide), fun z nz => ?_⟩
    have s1 := Same.new (H := H) (p := z) (o := .tup []) nz
    have gz : upd H z (.tup []) z = some (.tup []) := upd_same
    generalize upd H z (.tup []) = H1 at s1 gz ⊢
    refine ⟨dP S, .tuple [], dp_pt (hp.same s1), dp0 (tup_of gz), sh_P S, rfl, _, rfl, ?_⟩
    rw [eqv_P0]
    cases S with
    | none =>
      refine iteY rfl ?_
      refine ⟨_, rfl, (by show 0 ≤ sizeLine; decide), fun z2 nz2 => ?_⟩
      have s2 := Same.new (H := H1) (p := z2) (o := .tup []) nz2
      have gz2 : upd H1 z2 (.tup []) z2 = some (.tup []) := upd_same
      generalize upd H1 z2 (.tup []) = H2 at s2 gz2 ⊢
      have s02 := s1.trans s2
      refine ⟨dP none, .tuple [], dp_pt (hp.same s02), dp0 (tup_of gz2), sh_P none, rfl, _, rfl, iteT ?_⟩
      refine ⟨_, rfl, ?_⟩
      exact q o _ s02 (by cases R <;> exact ho.same s02)
    | some S =>
      refine iteN (by simp) ?_
      refine ⟨_, rfl, (by show 0 ≤ sizeLine; decide), fun z2 nz2 => ?_⟩
      have s2 := Same.new (H := H1) (p := z2) (o := .tup []) nz2
      have gz2 : upd H1 z2 (.tup []) z2 = some (.tup []) := upd_same
      generalize upd H1 z2 (.tup []) = H2 at s2 gz2 ⊢
      have s02 := s1.trans s2
      refine ⟨dP R, .tuple [], dp_pt (ho.same s02), dp0 (tup_of gz2), sh_P R, rfl, _, rfl, ?_⟩
      rw [eqv_P0]
      cases R with
      | none =>
        refine iteY rfl ?_
        refine ⟨_, rfl, (by show 0 ≤ sizeLine; decide), fun z3 nz3 => ?_⟩
        have s3 := Same.new (H := H2) (p := z3) (o := .tup []) nz3
        have gz3 : upd H2 z3 (.tup []) z3 = some (.tup []) := upd_same
        generalize upd H2 z3 (.tup []) = H3 at s3 gz3 ⊢
        have s03 := s02.trans s3
        refine ⟨dP (some S), .tuple [], dp_pt (hp.same s03), dp0 (tup_of gz3), sh_P (some S), rfl, _, rfl, iteF ?_⟩
        refine ⟨_, rfl, ?_⟩
        exact q p _ s03 (hp.same s03)
      | some R =>
        refine iteN (by simp) ?_
        obtain ⟨x, y⟩ := S
        obtain ⟨u, v⟩ := R
        replace hS : RB 200 x := hS
        replace hR : RB 200 u := hR
        have yB : RB 415 y := y_RB (h := 200) (g := 15) onS hS hg
        have vB : RB 415 v := y_RB (h := 200) (g := 15) onR hR hg
        have farB : HB 836 (sum e (some (x, y)) (some (u, v))) := sum_HB (h := 200) (j := 200) (g := 15) onS onR hS hR hg
        have aB : RB 15 ((e.a : Int) : Rat) := RB.int hg.a (by decide)
        have bB : RB 15 ((e.b : Int) : Rat) := RB.int hg.b (by decide)
        have a2B : RB 17 ((2 * e.a : Int) : Rat) := RB.int (B.mul (m := 2) (n := 15) (B.lit (by decide)) hg.a) (by decide)
        replace onS : y * y = e.f x := onS
        replace onR : v * v = e.f u := onR
        refine ⟨_, rfl, _, rfl, f, p, e, some (x, y), rfl, hf.same s02, hp.same s02, ⟨hS.up (by decide), yB.up (by decide)⟩, fun z3 H3 s3 hz3 => ?_⟩
        have s03 := s02.trans s3
        refine ⟨_, rfl, dP (neg (some (x, y))), dP (some (u, v)), dp_pt hz3, dp_pt (ho.same s03), sh_P (neg (some (x, y))), sh_P (some (u, v)), _, rfl, ?_⟩
        rw [eqv_P]
        by_cases hop : x = u ∧ -y = v
        · refine iteY (decide_eq_true (by show some (x, -y) = some (u, v); rw [hop.1, hop.2])) ?_
          refine ⟨(by show 0 ≤ sizeLine; decide), fun t nt => ?_⟩
          refine q t _ (s03.trans (Same.new nt)) ?_
          have : sum e (some (x, y)) (some (u, v)) = none := if_pos hop
          rw [this]
          exact tup_of upd_same
        refine iteN (fun h => hop (by
          have h1 := of_decide_eq_true h
          have h2 : some (x, -y) = some (u, v) := h1
          obtain ⟨h3, h4⟩ := Prod.mk.inj (Option.some.inj h2)
          exact ⟨h3, h4⟩)) ?_
        have esum : sum e (some (x, y)) (some (u, v)) = some (px e (slo e x y u v) x u, -(y + slo e x y u v * (px e (slo e x y u v) x u - x))) := if_neg hop
        rw [esum] at q farB
        replace farB : RB 836 (px e (slo e x y u v) x u) := farB
        clear esum hz3
        have hp3 := hp.same s03
        have ho3 := ho.same s03
        obtain ⟨px1, py1, g1, g2, g3⟩ := hp3
        obtain ⟨pu1, pv1, g4, g5, g6⟩ := ho3
        refine ⟨_, rfl, p, _, rfl, g1, rfl, _, _, rfl, _, _, rfl, rfl, ?_⟩
        first | refine sigN [some (.ref f), some (.ref p), some (.ref o), some (.ref px1), some (.ref py1), none, none, none] (by rfl) ?_ | refine sig [some (.ref f), some (.ref p), some (.ref o), some (.ref px1), some (.ref py1), none, none, none] (by rfl) ?_
        have hdS : Dp K H3 (.ref p) (dP (some (x, y))) := dp_pt (hp.same s03)
        have hdR : Dp K H3 (.ref o) (dP (some (u, v))) := dp_pt (ho.same s03)
        have hf3 := hf.same s03
        have E0 : FrE K H3 [(px1, x, 200), (py1, y, 415), (pu1, u, 200), (pv1, v, 415)] := FrE.add (FrE.add (FrE.add (FrE.add FrE.nil g6 vB) g5 hR) g3 yB) g2 hS
        have n2y : ∀ z : Rat, x = u ∧ y = v → 2 * y + z * 0 ≠ 0 := fun z h h2 => hop ⟨h.1, by obtain ⟨_, rfl⟩ := h; grind⟩
        have kB : RB 1232 (slo e x y u v) := by
          by_cases hsame : x = u ∧ y = v
          · have n2 := n2y 0 hsame
            obtain ⟨rfl, rfl⟩ := hsame
            rw [sl_dbl]
            exact (RB.div (show 2 * y ≠ 0 by grind) ((rb_three.mul (hS.mul hS)).add ((a2B.mul hS).add bB)) (rb_two.mul yB)).up (by decide)
          · rw [sl_two hsame]
            have nx : u - x ≠ 0 := by
              intro h0
              have hx : x = u := by grind
              subst hx
              rcases same_x onS onR with z | z
              · exact hsame ⟨rfl, z⟩
              · exact hop ⟨rfl, z⟩
            exact (RB.div nx (vB.sub yB) (hR.sub hS)).up (by decide)
        refine ⟨fun σ H4 => Same H3 H4 ∧ ∃ up kk, σ = [some (.ref f), some (.ref p), some (.ref o), some (.ref px1), some (.ref py1), up, some (.ref kk), none] ∧ SqT K H4 kk (fq (slo e x y u v)), ?_, ?_⟩
        · refine ⟨_, rfl, _, rfl, dP (some (x, y)), dP (some (u, v)), hdS, hdR, sh_P _, sh_P _, _, rfl, ?_⟩
          rw [eqv_P]
          by_cases hsame : x = u ∧ y = v
          · have n2 := n2y 0 hsame
            obtain ⟨rfl, rfl⟩ := hsame
            refine iteY (decide_eq_true rfl) ?_
            refine ⟨(by show 2 ≤ sizeLine; decide), fun three nthree => ?_⟩
            obtain ⟨I1, eH_, i1, E1⟩ := litE E0 nthree fq_3 rb_three
            rw [eH_]
            clear eH_
            refine ⟨_, rfl, _, rfl, ?_⟩
            refine ⟨px1, px1, _, _, rfl, E1.get (by walk_at "mm"), E1.get (by walk_at "mm"), (E1.rb (p := px1) (by walk_at "mm")).up (by decide), (E1.rb (p := px1) (by walk_at "mm")).up (by decide), trivial, fun xx nxx => ?_⟩
            obtain ⟨I2, eH_, i2, E2⟩ := stepE E1 nxx (RB.mul (E1.rb (p := px1) (by walk_at "mm")) (E1.rb (p := px1) (by walk_at "mm")))
            rw [eH_]
            clear eH_
            refine ⟨three, xx, _, _, rfl, E2.get (by walk_at "mm"), E2.get (by walk_at "mm"), (E2.rb (p := three) (by walk_at "mm")).up (by decide), (E2.rb (p := xx) (by walk_at "mm")).up (by decide), trivial, fun txx ntxx => ?_⟩
            obtain ⟨I3, eH_, i3, E3⟩ := stepE E2 ntxx (RB.mul (E2.rb (p := three) (by walk_at "mm")) (E2.rb (p := xx) (by walk_at "mm")))
            rw [eH_]
            clear eH_
            refine ⟨_, rfl, f, _, 1, _, rfl, rfl, hf3.same (i1.trans (i2.trans i3)), rfl, _, _, rfl, rfl, Or.inl ⟨by decide, by decide⟩, ?_⟩
            refine ⟨(by show 2 ≤ sizeLine; decide), fun ta nta => ?_⟩
            obtain ⟨I4, eH_, i4, E4⟩ := litE E3 nta (fq_int _).symm a2B
            rw [eH_]
            clear eH_
            refine ⟨_, rfl, ?_⟩
            refine ⟨ta, px1, _, _, rfl, E4.get (by walk_at "mm"), E4.get (by walk_at "mm"), (E4.rb (p := ta) (by walk_at "mm")).up (by decide), (E4.rb (p := px1) (by walk_at "mm")).up (by decide), trivial, fun ax nax => ?_⟩
            obtain ⟨I5, eH_, i5, E5⟩ := stepE E4 nax (RB.mul (E4.rb (p := ta) (by walk_at "mm")) (E4.rb (p := px1) (by walk_at "mm")))
            rw [eH_]
            clear eH_
            have j5 := i1.trans (i2.trans (i3.trans (i4.trans i5)))
            clear i1 i2 i3 i4 i5 E1 E2 E3 E4
            refine ⟨_, rfl, f, _, 3, _, rfl, rfl, hf3.same j5, rfl, ?_⟩
            refine ⟨(by show 2 ≤ sizeLine; decide), fun tb ntb => ?_⟩
            obtain ⟨I6, eH_, i6, E6⟩ := litE E5 ntb (fq_int _).symm bB
            rw [eH_]
            clear eH_
            refine ⟨ax, tb, _, _, rfl, E6.get (by walk_at "mm"), E6.get (by walk_at "mm"), (E6.rb (p := ax) (by walk_at "mm")).up (by decide), (E6.rb (p := tb) (by walk_at "mm")).up (by decide), trivial, fun axb naxb => ?_⟩
            obtain ⟨I7, eH_, i7, E7⟩ := stepE E6 naxb (RB.add (E6.rb (p := ax) (by walk_at "mm")) (E6.rb (p := tb) (by walk_at "mm")))
            rw [eH_]
            clear eH_
            refine ⟨txx, axb, _, _, rfl, E7.get (by walk_at "mm"), E7.get (by walk_at "mm"), (E7.rb (p := txx) (by walk_at "mm")).up (by decide), (E7.rb (p := axb) (by walk_at "mm")).up (by decide), trivial, fun up1 nup1 => ?_⟩
            obtain ⟨I8, eH_, i8, E8⟩ := stepE E7 nup1 (RB.add (E7.rb (p := txx) (by walk_at "mm")) (E7.rb (p := axb) (by walk_at "mm")))
            rw [eH_]
            clear eH_
            first | refine sigN [some (.ref f), some (.ref p), some (.ref o), some (.ref px1), some (.ref py1), some (.ref up1), none, none] (by rfl) ?_ | refine sig [some (.ref f), some (.ref p), some (.ref o), some (.ref px1), some (.ref py1), some (.ref up1), none, none] (by rfl) ?_
            have j8 := j5.trans (i6.trans (i7.trans i8))
            clear j5 i6 i7 i8 E5 E6 E7
            refine ⟨_, rfl, _, rfl, f, _, 0, .int 0, rfl, rfl, hf3.same j8, rfl, ?_⟩
            refine ⟨(by show 2 ≤ sizeLine; decide), fun tz ntz => ?_⟩
            obtain ⟨I9, eH_, i9, E9⟩ := litE E8 ntz fq_0 RB.zero
            rw [eH_]
            clear eH_
            refine ⟨_, rfl, ?_⟩
            refine ⟨tz, py1, _, _, rfl, E9.get (by walk_at "mm"), E9.get (by walk_at "mm"), (E9.rb (p := tz) (by walk_at "mm")).up (by decide), (E9.rb (p := py1) (by walk_at "mm")).up (by decide), trivial, fun zy nzy => ?_⟩
            obtain ⟨Ia, eH_, ia, E10⟩ := stepE E9 nzy (RB.mul (E9.rb (p := tz) (by walk_at "mm")) (E9.rb (p := py1) (by walk_at "mm")))
            rw [eH_]
            clear eH_
            have E11 := E10.re (Rat.zero_mul _) RB.zero
            refine ⟨up1, zy, _, _, rfl, E11.get (by walk_at "mm"), E11.get (by walk_at "mm"), (E11.rb (p := up1) (by walk_at "mm")).up (by decide), (E11.rb (p := zy) (by walk_at "mm")).up (by decide), trivial, fun up2 nup2 => ?_⟩
            obtain ⟨Ib, eH_, ib, E12⟩ := stepE E11 nup2 (RB.sub (E11.rb (p := up1) (by walk_at "mm")) (E11.rb (p := zy) (by walk_at "mm")))
            rw [eH_]
            clear eH_
            first | refine sigN [some (.ref f), some (.ref p), some (.ref o), some (.ref px1), some (.ref py1), some (.ref up2), none, none] (by rfl) ?_ | refine sig [some (.ref f), some (.ref p), some (.ref o), some (.ref px1), some (.ref py1), some (.ref up2), none, none] (by rfl) ?_
            have jb := j8.trans (i9.trans (ia.trans ib))
            clear j8 i9 ia ib E8 E9 E10 E11
            refine ⟨_, rfl, ?_⟩
            refine ⟨(by show 2 ≤ sizeLine; decide), fun two ntwo => ?_⟩
            obtain ⟨Ic, eH_, ic, E13⟩ := litE E12 ntwo fq_2 rb_two
            rw [eH_]
            clear eH_
            refine ⟨_, rfl, ?_⟩
            refine ⟨two, py1, _, _, rfl, E13.get (by walk_at "mm"), E13.get (by walk_at "mm"), (E13.rb (p := two) (by walk_at "mm")).up (by decide), (E13.rb (p := py1) (by walk_at "mm")).up (by decide), trivial, fun ty nty => ?_⟩
            obtain ⟨Id, eH_, id, E14⟩ := stepE E13 nty (RB.mul (E13.rb (p := two) (by walk_at "mm")) (E13.rb (p := py1) (by walk_at "mm")))
            rw [eH_]
            clear eH_
            refine ⟨_, rfl, _, rfl, f, px1, e, x, rfl, hf3.same (jb.trans (ic.trans id)), E14.get (p := px1) (by walk_at "mm"), hS.up (by decide), fun tb0 ntb0 => ?_⟩
            obtain ⟨Ie, eH_, ie, E15⟩ := stepE E14 ntb0 RB.zero
            rw [eH_]
            clear eH_
            refine ⟨ty, tb0, _, _, rfl, E15.get (by walk_at "mm"), E15.get (by walk_at "mm"), (E15.rb (p := ty) (by walk_at "mm")).up (by decide), (E15.rb (p := tb0) (by walk_at "mm")).up (by decide), trivial, fun den nden => ?_⟩
            obtain ⟨If, eH_, ig, E16⟩ := stepE E15 nden (RB.add (E15.rb (p := ty) (by walk_at "mm")) (E15.rb (p := tb0) (by walk_at "mm")))
            rw [eH_]
            clear eH_
            have nden : 2 * y + 0 ≠ 0 := by grind
            refine ⟨up2, den, _, _, rfl, E16.get (by walk_at "mm"), E16.get (by walk_at "mm"), (E16.rb (p := up2) (by walk_at "mm")).up (by decide), (E16.rb (p := den) (by walk_at "mm")).up (by decide), nden, fun kk nkk => ?_⟩
            obtain ⟨Ig, eH_, ih, E17⟩ := stepE E16 nkk (RB.div nden (E16.rb (p := up2) (by walk_at "mm")) (E16.rb (p := den) (by walk_at "mm")))
            rw [eH_]
            clear eH_
            refine ⟨jb.trans (ic.trans (id.trans (ie.trans (ig.trans ih)))), _, kk, rfl, sq_eq (E17.get (p := kk) (by walk_at "mm")) ?_⟩
            rw [sl_dbl]
            grind
          · refine iteN (fun h => hsame (by
              have h1 := of_decide_eq_true h
              obtain ⟨h3, h4⟩ := Prod.mk.inj (Option.some.inj h1)
              exact ⟨h3, h4⟩)) ?_
            have nx : u - x ≠ 0 := by
              intro h0
              have hx : x = u := by grind
              subst hx
              rcases same_x onS onR with z | z
              · exact hsame ⟨rfl, z⟩
              · exact hop ⟨rfl, z⟩
            refine ⟨_, rfl, o, _, 1, .ref pv1, rfl, rfl, g4, rfl, _, rfl, ?_⟩
            refine ⟨pv1, py1, _, _, rfl, E0.get (by walk_at "mm"), E0.get (by walk_at "mm"), (E0.rb (p := pv1) (by walk_at "mm")).up (by decide), (E0.rb (p := py1) (by walk_at "mm")).up (by decide), trivial, fun d1 nd1 => ?_⟩
            obtain ⟨I1, eH_, i1, E1⟩ := stepE E0 nd1 (RB.sub (E0.rb (p := pv1) (by walk_at "mm")) (E0.rb (p := py1) (by walk_at "mm")))
            rw [eH_]
            clear eH_
            refine ⟨_, rfl, o, _, 0, .ref pu1, rfl, rfl, Same.tup i1 g4, rfl, _, rfl, ?_⟩
            refine ⟨pu1, px1, _, _, rfl, E1.get (by walk_at "mm"), E1.get (by walk_at "mm"), (E1.rb (p := pu1) (by walk_at "mm")).up (by decide), (E1.rb (p := px1) (by walk_at "mm")).up (by decide), trivial, fun d2 nd2 => ?_⟩
            obtain ⟨I2, eH_, i2, E2⟩ := stepE E1 nd2 (RB.sub (E1.rb (p := pu1) (by walk_at "mm")) (E1.rb (p := px1) (by walk_at "mm")))
            rw [eH_]
            clear eH_
            refine ⟨d1, d2, _, _, rfl, E2.get (by walk_at "mm"), E2.get (by walk_at "mm"), (E2.rb (p := d1) (by walk_at "mm")).up (by decide), (E2.rb (p := d2) (by walk_at "mm")).up (by decide), nx, fun kk nkk => ?_⟩
            obtain ⟨I3, eH_, i3, E3⟩ := stepE E2 nkk (RB.div nx (E2.rb (p := d1) (by walk_at "mm")) (E2.rb (p := d2) (by walk_at "mm")))
            rw [eH_]
            clear eH_
            refine ⟨i1.trans (i2.trans i3), _, kk, rfl, sq_eq (E3.get (p := kk) (by walk_at "mm")) ?_⟩
            rw [sl_two hsame]
        · rintro σ H4 ⟨s4, up, kk, rfl, gk⟩
          have F0 : FrE K H4 [(kk, slo e x y u v, 1232), (px1, x, 200), (py1, y, 415), (pu1, u, 200), (pv1, v, 415)] := (E0.same s4).add gk kB
          obtain ⟨k, hk⟩ : ∃ k, slo e x y u v = k := ⟨_, rfl⟩
          rw [hk] at F0 q farB
          clear E0 gk kB hk
          have hf4 := hf3.same s4
          have g4' := Same.tup s4 g4
          refine ⟨_, rfl, _, rfl, ?_⟩
          refine ⟨kk, kk, _, _, rfl, F0.get (by walk_at "mm"), F0.get (by walk_at "mm"), (F0.rb (p := kk) (by walk_at "mm")).up (by decide), (F0.rb (p := kk) (by walk_at "mm")).up (by decide), trivial, fun k2 nk2 => ?_⟩
          obtain ⟨I1, eH_, i1, E1⟩ := stepE F0 nk2 (RB.mul (F0.rb (p := kk) (by walk_at "mm")) (F0.rb (p := kk) (by walk_at "mm")))
          rw [eH_]
          clear eH_
          refine ⟨_, rfl, f, _, 0, .int 0, rfl, rfl, hf4.same i1, rfl, ?_⟩
          refine ⟨(by show 2 ≤ sizeLine; decide), fun tz ntz => ?_⟩
          obtain ⟨I2, eH_, i2, E2⟩ := litE E1 ntz fq_0 RB.zero
          rw [eH_]
          clear eH_
          refine ⟨_, rfl, ?_⟩
          refine ⟨tz, kk, _, _, rfl, E2.get (by walk_at "mm"), E2.get (by walk_at "mm"), (E2.rb (p := tz) (by walk_at "mm")).up (by decide), (E2.rb (p := kk) (by walk_at "mm")).up (by decide), trivial, fun zk nzk => ?_⟩
          obtain ⟨I3, eH_, i3, E3⟩ := stepE E2 nzk (RB.mul (E2.rb (p := tz) (by walk_at "mm")) (E2.rb (p := kk) (by walk_at "mm")))
          rw [eH_]
          clear eH_
          have E4 := E3.re (Rat.zero_mul _) RB.zero
          refine ⟨k2, zk, _, _, rfl, E4.get (by walk_at "mm"), E4.get (by walk_at "mm"), (E4.rb (p := k2) (by walk_at "mm")).up (by decide), (E4.rb (p := zk) (by walk_at "mm")).up (by decide), trivial, fun k3 nk3 => ?_⟩
          obtain ⟨I4, eH_, i4, E5⟩ := stepE E4 nk3 (RB.add (E4.rb (p := k2) (by walk_at "mm")) (E4.rb (p := zk) (by walk_at "mm")))
          rw [eH_]
          clear eH_
          refine ⟨_, rfl, f, _, 1, _, rfl, rfl, hf4.same (i1.trans (i2.trans (i3.trans i4))), rfl, ?_⟩
          refine ⟨(by show 2 ≤ sizeLine; decide), fun ta nta => ?_⟩
          obtain ⟨I5, eH_, i5, E6⟩ := litE E5 nta (fq_int _).symm aB
          rw [eH_]
          clear eH_
          refine ⟨k3, ta, _, _, rfl, E6.get (by walk_at "mm"), E6.get (by walk_at "mm"), (E6.rb (p := k3) (by walk_at "mm")).up (by decide), (E6.rb (p := ta) (by walk_at "mm")).up (by decide), trivial, fun f1 nf1 => ?_⟩
          obtain ⟨I6, eH_, i6, E7⟩ := stepE E6 nf1 (RB.sub (E6.rb (p := k3) (by walk_at "mm")) (E6.rb (p := ta) (by walk_at "mm")))
          rw [eH_]
          clear eH_
          first | refine sigN [some (.ref f), some (.ref p), some (.ref o), some (.ref px1), some (.ref py1), up, some (.ref kk), some (.ref f1)] (by rfl) ?_ | refine sig [some (.ref f), some (.ref p), some (.ref o), some (.ref px1), some (.ref py1), up, some (.ref kk), some (.ref f1)] (by rfl) ?_
          have j6 := i1.trans (i2.trans (i3.trans (i4.trans (i5.trans i6))))
          clear i1 i2 i3 i4 i5 i6 E1 E2 E3 E4 E5 E6
          refine ⟨_, rfl, _, rfl, ?_⟩
          refine ⟨f1, px1, _, _, rfl, E7.get (by walk_at "mm"), E7.get (by walk_at "mm"), (E7.rb (p := f1) (by walk_at "mm")).up (by decide), (E7.rb (p := px1) (by walk_at "mm")).up (by decide), trivial, fun f2 nf2 => ?_⟩
          obtain ⟨I7, eH_, i7, E8⟩ := stepE E7 nf2 (RB.sub (E7.rb (p := f1) (by walk_at "mm")) (E7.rb (p := px1) (by walk_at "mm")))
          rw [eH_]
          clear eH_
          refine ⟨_, rfl, o, _, 0, .ref pu1, rfl, rfl, Same.tup (j6.trans i7) g4', rfl, ?_⟩
          refine ⟨f2, pu1, _, _, rfl, E8.get (by walk_at "mm"), E8.get (by walk_at "mm"), (E8.rb (p := f2) (by walk_at "mm")).up (by decide), (E8.rb (p := pu1) (by walk_at "mm")).up (by decide), trivial, fun f3 nf3 => ?_⟩
          obtain ⟨I8, eH_, i8, E9⟩ := stepE E8 nf3 (RB.sub (E8.rb (p := f2) (by walk_at "mm")) (E8.rb (p := pu1) (by walk_at "mm")))
          rw [eH_]
          clear eH_
          first | refine sigN [some (.ref f), some (.ref p), some (.ref o), some (.ref px1), some (.ref py1), up, some (.ref kk), some (.ref f3)] (by rfl) ?_ | refine sig [some (.ref f), some (.ref p), some (.ref o), some (.ref px1), some (.ref py1), up, some (.ref kk), some (.ref f3)] (by rfl) ?_
          have E10 := E9.re (b := px e k x u) (by unfold px; grind) farB
          have j8 := j6.trans (i7.trans i8)
          clear j6 i7 i8 E7 E8 E9
          refine ⟨_, rfl, _, rfl, _, rfl, _, rfl, _, rfl, _, rfl, ?_⟩
          refine ⟨f3, px1, _, _, rfl, E10.get (by walk_at "mm"), E10.get (by walk_at "mm"), (E10.rb (p := f3) (by walk_at "mm")).up (by decide), (E10.rb (p := px1) (by walk_at "mm")).up (by decide), trivial, fun h1 nh1 => ?_⟩
          obtain ⟨I9, eH_, i9, E11⟩ := stepE E10 nh1 (RB.sub (E10.rb (p := f3) (by walk_at "mm")) (E10.rb (p := px1) (by walk_at "mm")))
          rw [eH_]
          clear eH_
          refine ⟨kk, h1, _, _, rfl, E11.get (by walk_at "mm"), E11.get (by walk_at "mm"), (E11.rb (p := kk) (by walk_at "mm")).up (by decide), (E11.rb (p := h1) (by walk_at "mm")).up (by decide), trivial, fun h2 nh2 => ?_⟩
          obtain ⟨Ia, eH_, ia, E12⟩ := stepE E11 nh2 (RB.mul (E11.rb (p := kk) (by walk_at "mm")) (E11.rb (p := h1) (by walk_at "mm")))
          rw [eH_]
          clear eH_
          refine ⟨py1, h2, _, _, rfl, E12.get (by walk_at "mm"), E12.get (by walk_at "mm"), (E12.rb (p := py1) (by walk_at "mm")).up (by decide), (E12.rb (p := h2) (by walk_at "mm")).up (by decide), trivial, fun h3 nh3 => ?_⟩
          obtain ⟨Ib, eH_, ib, E13⟩ := stepE E12 nh3 (RB.add (E12.rb (p := py1) (by walk_at "mm")) (E12.rb (p := h2) (by walk_at "mm")))
          rw [eH_]
          clear eH_
          refine ⟨(by show 2 ≤ sizeLine; decide), fun r nr => ?_⟩
          have ic := Same.new (H := Ib) (p := r) (o := .tup [.ref f3, .ref h3]) nr
          have gr : upd Ib r (.tup [.ref f3, .ref h3]) r = some (.tup [.ref f3, .ref h3]) := upd_same
          generalize upd Ib r (.tup [.ref f3, .ref h3]) = Ic at ic gr ⊢
          have E14 := E13.same ic
          have jc := j8.trans (i9.trans (ia.trans (ib.trans ic)))
          refine ⟨f, r, e, some (px e k x u, y + k * (px e k x u - x)), rfl, hf4.same jc, ⟨f3, h3, tup_of gr, E14.get (p := f3) (by walk_at "mm"), E14.get (p := h3) (by walk_at "mm")⟩, ⟨farB.up (by decide), (E14.rb (p := h3) (by walk_at "mm")).up (by decide)⟩, fun t H' s9 ht => ?_⟩
          exact q t H' (s03.trans (s4.trans (jc.trans s9))) ht
end
end K53
set_option Elab.async false
set_option linter.all false
set_option maxRecDepth 100000
set_option maxHeartbeats 4000000
namespace K53
open PySem PySem.Spec PyProof.Rows L2 Gd QM EcM EcP
theorem PB.of {m : Nat} {x y : Rat} (h : RB m x) (k : RB m y) : PB m (some (x, y)) := ⟨h, k⟩
theorem HB.pb {e : Ec} {P : Pt} (h : On e P) (k : HB 200 P) (g : e.Bd 15) : PB 3000 P := by
  match P, h, k with
  | none, _, _ => trivial
  | some (x, y), h, k => exact ⟨RB.up k (by decide), (y_RB (h := 200) (g := 15) h k g).up (by decide)⟩
theorem neg_HB {h : Nat} {P : Pt} (k : HB h P) : HB h (neg P) := by
  match P, k with
  | none, _ => trivial
  | some (x, y), k => exact k
section
variable {P : Program} {w : World} {K : PySem.W.Frag} {mg : Str → Option Value} {base : Heap}
/-! ### the multiple -/
/-- what is told of the multiple -/
def Tms (e : Ec) (n : Int) (T : Pt) : Prop := On e T ∧ HB 188 T ∧ (n % 2 = 0 → n ≠ 0 → ∃ R, On e R ∧ T = sum e R R)
/-- where the walk stands -/
inductive St (e : Ec) (S : Pt) (n : Nat) : Nat → Pt → Pt → Prop
  | a : St e S n n none S
  | b : 1 ≤ n → St e S n (n / 2) (if n % 2 = 1 then S else none) (if 2 ≤ n then sum e S S else S)
  | c : 2 ≤ n → St e S n 0 (sum e (if n % 2 = 1 then S else none) (sum e S S)) (sum e S S)
theorem sum_none (e : Ec) (T : Pt) : sum e none T = T := rfl
theorem St.step {e : Ec} {S F T : Pt} {n j : Nat} (h : St e S n j F T) (hn : n ≤ 3) (hj : j ≠ 0) : St e S n (j / 2) (if j % 2 = 1 then sum e F T else F) (if 0 < j / 2 then sum e T T else T) := by
  cases h with
  | a =>
    rw [sum_none]
    have h2 := St.b (e := e) (S := S) (n := n) (by omega)
    by_cases z : 2 ≤ n
    · rw [if_pos z] at h2
      rw [if_pos (show 0 < n / 2 by omega)]
      exact h2
    · rw [if_neg z] at h2
      rw [if_neg (show ¬ 0 < n / 2 by omega)]
      exact h2
  | b h1 =>
    have e1 : n / 2 = 1 := by omega
    have h2 : 2 ≤ n := by omega
    rw [e1, if_pos h2, if_pos (show 1 % 2 = 1 from rfl), if_neg (show ¬ 0 < 1 / 2 by decide)]
    exact .c h2
  | c h1 => exact absurd rfl hj
theorem ite_ok {e : Ec} {S : Pt} {c : Prop} [Decidable c] {h : Nat} (o : On e S) (b : HB h S) : On e (if c then S else none) ∧ HB h (if c then S else none) := by
  split
  · exact ⟨o, b⟩
  · exact ⟨trivial, trivial⟩
theorem dbl_HB {e : Ec} {S : Pt} (h : On e S) (k : HB 8 S) (g : e.Bd 15) : HB 68 (sum e S S) := sum_HB (h := 8) (j := 8) (g := 15) h h k k g
theorem St.ok {e : Ec} {S F T : Pt} {n j : Nat} (h : St e S n j F T) (o : On e S) (b : HB 8 S) (g : e.Bd 15) : On e F ∧ On e T ∧ HB 200 F ∧ HB 200 T := by
  have d := dbl_HB o b g
  have od := o.sum o
  cases h with
  | a => exact ⟨trivial, o, trivial, HB.up (h := 8) (k := 200) b (by decide)⟩
  | b h1 =>
    obtain ⟨o1, b1⟩ := ite_ok (c := n % 2 = 1) o b
    refine ⟨o1, ?_, HB.up (h := 8) (k := 200) b1 (by decide), ?_⟩
    · split
      · exact od
      · exact o
    · split
      · exact HB.up (h := 68) (k := 200) d (by decide)
      · exact HB.up (h := 8) (k := 200) b (by decide)
  | c h1 =>
    obtain ⟨o1, b1⟩ := ite_ok (c := n % 2 = 1) o b
    exact ⟨o1.sum od, od, HB.up (h := 188) (k := 200) (sum_HB (h := 8) (j := 68) (g := 15) o1 od b1 d g) (by decide), HB.up (h := 68) (k := 200) d (by decide)⟩
def sp_times0 (K : PySem.W.Frag) : Sp := fun vs H Q _ => ∃ (f p : Addr) (e : Ec) (n : Nat) (S : Pt), vs = [.ref f, .int (n : Int), .ref p] ∧ FivT K H f e ∧ e.Bd 15 ∧ PtT K H p S ∧ On e S ∧ HB 8 S ∧ n ≤ 3 ∧ ∀ t H' T, Same H H' → PtT K H' t T → Tms e n T → Q (.ref t) H'
theorem tms_0 {e : Ec} : Tms e 0 none := ⟨trivial, trivial, fun _ h => absurd rfl h⟩
theorem tms_1 {e : Ec} {S : Pt} (h : On e S) (k : HB 8 S) : Tms e 1 S := ⟨h, k.up (by decide), fun h => by cases h⟩
theorem tms_2 {e : Ec} {S : Pt} (h : On e S) (k : HB 8 S) (g : e.Bd 15) : Tms e 2 (sum e none (sum e S S)) := ⟨h.sum h, (dbl_HB h k g).up (by decide), fun _ _ => ⟨S, h, rfl⟩⟩
theorem tms_3 {e : Ec} {S : Pt} (h : On e S) (k : HB 8 S) (g : e.Bd 15) : Tms e 3 (sum e S (sum e S S)) := ⟨h.sum (h.sum h), sum_HB (h := 8) (j := 68) (g := 15) h (h.sum h) k (dbl_HB h k g) g, fun h => by cases h⟩
theorem St.tms {e : Ec} {S F T : Pt} {n j : Nat} (h : St e S n j F T) (hj : j = 0) (hn : n ≤ 3) (o : On e S) (b : HB 8 S) (g : e.Bd 15) : Tms e (n : Int) F := by
  cases h with
  | a =>
    subst hj
    exact tms_0
  | b h1 =>
    obtain rfl : n = 1 := by omega
    exact tms_1 o b
  | c h1 =>
    rcases (show n = 2 ∨ n = 3 by omega) with rfl | rfl
    · exact tms_2 o b g
    · exact tms_3 o b g
abbrev s__law_times_of : Stmt := topS 35
theorem sc__law_times_of : FnScope ["five", "n", "point", "found", "step"] ["five", "n", "point"] (defScope s__law_times_of) := ⟨rfl, rfl, rfl, by decide +kernel, rfl, by decide +kernel, by decide +kernel⟩
theorem k_times0 (T : Tx K mg) (D : Df K mg "_law_times_of" s__law_times_of ["five", "n", "point"]) (c_law_turned : Kl P w K mg base 4 "_law_turned" (sp_law_turned K)) (c_law_sum : Kl P w K mg base 5 "_law_sum" (sp_law_sum K)) : Kl P w K mg base 6 "_law_times_of" (sp_times0 K) := by
  have nd := sc__law_times_of.nd
  refine Kl.by_body D sc__law_times_of (fun vs H Q E h => ?_) (fun f cdv A outer s H vs Q E hr h => ?_)
  · obtain ⟨_, _, _, _, _, rfl, _⟩ := h
    rfl
  · obtain ⟨f, p, e, n, S, rfl, hf, hg, hp, hS, hB, hn, q⟩ := h
    have c_law_times_of : Kl P w K mg base (0 + 1) "_law_times_of" (fun _ _ _ _ => False) := Kl.by_body D sc__law_times_of (fun _ _ _ _ h => h.elim) (fun _ _ _ _ _ _ _ _ _ _ h => h.elim)
    have hu1 := hu_of hr
    refine ⟨_, (pss_cons (ps_if (pt_cmpR op_lt (pv 1) pe_int (nomark _)) (pss_one (ps_ret (pe_k c_law_times_of  hr (by decide) (by rfl) (pa_cons (pv 0) (pa_cons (pe_un un_neg (pv 1)) (pa_cons (pe_k c_law_turned  hr (by decide) (by rfl) (pa_cons (pv 0) (pa_cons (pv 2) pa_nil))) pa_nil)))))) pss_nil)
      (pss_cons (ps_par (i := 3) (j := 4) (by rfl) nd rfl rfl (by decide) rfl rfl (pa_cons (pe_tup pa_nil) (pa_cons (pv 2) pa_nil)) (by rfl))
      (pss_cons (ps_while PassesOwn.never (pt_cmpR op_gt (pv 1) pe_int (nomark _)) (C8.pss_cut (ps_if (pt_cmpR op_ne (pe_op op_mul (pe_op op_fdiv (pv 1) pe_int) pe_int) (pv 1) (nomark _)) (pss_one (ps_set (i := 3) nd rfl (by first | exact Or.inl rfl | exact Or.inr rfl) (pe_k c_law_sum  hr (by decide) (by rfl) (pa_cons (pv 0) (pa_cons (pv 3) (pa_cons (pv 4) pa_nil)))))) pss_nil)
      (pss_cons (ps_set (i := 1) nd rfl (by first | exact Or.inl rfl | exact Or.inr rfl) (pe_op op_fdiv (pv 1) pe_int))
      (pss_one (ps_if (pt_cmpR op_gt (pv 1) pe_int (nomark _)) (pss_one (ps_set (i := 4) nd rfl (by first | exact Or.inl rfl | exact Or.inr rfl) (pe_k c_law_sum  hr (by decide) (by rfl) (pa_cons (pv 0) (pa_cons (pv 4) (pa_cons (pv 4) pa_nil)))))) pss_nil)))))
      (pss_one (ps_ret (pv 3)))))), ?_⟩
    refine ⟨_, rfl, _, _, rfl, rfl, _, rfl, iteN (by simp) ?_⟩
    refine ⟨(by show 0 ≤ sizeLine; decide), fun z nz => ?_⟩
    have s1 := Same.new (H := H) (p := z) (o := .tup []) nz
    have gz : upd H z (.tup []) z = some (.tup []) := upd_same
    generalize upd H z (.tup []) = H1 at s1 gz ⊢
    
    refine ⟨_, rfl, _, _, rfl, ?_⟩
    first | refine sigN [some (.ref f), some (.int ((n : Int))), some (.ref p), some (.ref z), some (.ref p)] (by rfl) ?_ | refine sig [some (.ref f), some (.int ((n : Int))), some (.ref p), some (.ref z), some (.ref p)] (by rfl) ?_
    have hf1 := hf.same s1
    refine while_by (fun σ H2 => Same H1 H2 ∧ ∃ (j : Nat) (fo st : Addr) (F T : Pt), σ = [some (.ref f), some (.int (j : Int)), some (.ref p), some (.ref fo), some (.ref st)] ∧ PtT K H2 fo F ∧ PtT K H2 st T ∧ St e S n j F T)
      (fun σ _ => match σ with | [_, some (.int j), _, _, _] => j.toNat | _ => 0) ⟨Same.refl _, n, z, p, none, S, rfl, tup_of gz, hp.same s1, .a⟩ ?_ ?_
    · rintro σ H2 ⟨s2, j, fo, st, F, T, rfl, hF, hT, hs⟩
      obtain ⟨oF, oT, bF, bT⟩ := hs.ok hS hB hg
      refine ⟨_, rfl, _, _, rfl, rfl, _, rfl, ?_⟩
      by_cases hj : j = 0
      · refine iteN (by simp; omega) ?_
        exact ⟨_, rfl, q fo _ F (s1.trans s2) hF (hs.tms hj hn hS hB hg)⟩
      · refine iteY (by simp; omega) ?_
        have nx := hs.step hn hj
        have hf2 := hf1.same s2
        refine ⟨fun σ H3 => Same H2 H3 ∧ ∃ fo', σ = [some (.ref f), some (.int (j : Int)), some (.ref p), some (.ref fo'), some (.ref st)] ∧ PtT K H3 fo' (if j % 2 = 1 then sum e F T else F), ?_, ?_⟩
        · refine ⟨_, rfl, _, _, rfl, rfl, ⟨by decide, by decide⟩, _, _, rfl, rfl, Or.inr ⟨by decide, by decide⟩, _, rfl, rfl, _, rfl, ?_⟩
          by_cases hp2 : j % 2 = 1
          · refine iteY (by simp; omega) ?_
            refine ⟨_, rfl, _, rfl, _, rfl, f, fo, st, e, F, T, rfl, hf2, hg, hF, hT, oF, oT, bF, bT, fun t H3 s3 ht => ?_⟩
            refine ⟨s3, t, rfl, ?_⟩
            rw [if_pos hp2]
            exact ht
          · refine iteN (by simp; omega) ?_
            refine ⟨Same.refl _, fo, rfl, ?_⟩
            rw [if_neg hp2]
            exact hF
        · rintro σ H3 ⟨s3, fo', rfl, hF'⟩
          have ej : ((j : Int)) / 2 = ((j / 2 : Nat) : Int) := by omega
          refine ⟨_, rfl, _, _, rfl, rfl, ⟨by decide, by decide⟩, ?_⟩
          refine sigN [some (.ref f), some (.int ((j / 2 : Nat) : Int)), some (.ref p), some (.ref fo'), some (.ref st)] (by rw [← ej]; rfl) ?_
          refine ⟨_, rfl, _, _, rfl, rfl, _, rfl, ?_⟩
          have dj : ((j / 2 : Nat) : Int).toNat < (j : Int).toNat := by omega
          by_cases hz : 0 < j / 2
          · refine iteY (by simp; omega) ?_
            rw [if_pos hz] at nx
            refine ⟨_, rfl, _, rfl, _, rfl, f, st, st, e, T, T, rfl, hf2.same s3, hg, hT.same s3, hT.same s3, oT, oT, bT, bT, fun t H4 s4 ht => ?_⟩
            exact ⟨⟨s2.trans (s3.trans s4), j / 2, fo', t, _, _, rfl, hF'.same s4, ht, nx⟩, dj⟩
          · refine iteN (by simp; omega) ?_
            rw [if_neg hz] at nx
            exact ⟨⟨s2.trans s3, j / 2, fo', st, _, _, rfl, hF', hT.same s3, nx⟩, dj⟩
    · rintro σ H2 Q1 Q2 i ⟨v, hv, x, y, e1, e2, c, hc, k⟩
      exact ⟨v, hv, x, y, e1, e2, c, hc, i _ _ k⟩
theorem tms_neg {e : Ec} {n : Nat} {T : Pt} (h : Tms e (n : Int) T) : Tms e (-(n : Int)) T := ⟨h.1, h.2.1, fun h2 h0 => h.2.2 (by omega) (by omega)⟩
def sp_law_times_of (K : PySem.W.Frag) : Sp := fun vs H Q _ => ∃ (f p : Addr) (e : Ec) (n : Int) (S : Pt), vs = [.ref f, .int n, .ref p] ∧ FivT K H f e ∧ e.Bd 15 ∧ PtT K H p S ∧ On e S ∧ HB 8 S ∧ -3 ≤ n ∧ n ≤ 3 ∧ ∀ t H' T, Same H H' → PtT K H' t T → Tms e n T → Q (.ref t) H'
theorem k_law_times_of (T : Tx K mg) (D : Df K mg "_law_times_of" s__law_times_of ["five", "n", "point"]) (c_law_turned : Kl P w K mg base 4 "_law_turned" (sp_law_turned K)) (c_law_sum : Kl P w K mg base 5 "_law_sum" (sp_law_sum K)) : Kl P w K mg base 7 "_law_times_of" (sp_law_times_of K) := by
  have nd := sc__law_times_of.nd
  refine Kl.by_body D sc__law_times_of (fun vs H Q E h => ?_) (fun f cdv A outer s H vs Q E hr h => ?_)
  · obtain ⟨_, _, _, _, _, rfl, _⟩ := h
    rfl
  · obtain ⟨f, p, e, n, S, rfl, hf, hg, hp, hS, hB, hn1, hn3, q⟩ := h
    have c_times0 := k_times0 T D c_law_turned c_law_sum
    rcases (show 0 ≤ n ∨ n < 0 by omega) with h0 | h0
    · obtain ⟨n, rfl⟩ := Int.eq_ofNat_of_zero_le h0
      have hn : n ≤ 3 := by omega
      have c_law_times_of := c_times0
      have hu1 := hu_of hr
      refine ⟨_, (pss_cons (ps_if (pt_cmpR op_lt (pv 1) pe_int (nomark _)) (pss_one (ps_ret (pe_k c_law_times_of  hr (by decide) (by rfl) (pa_cons (pv 0) (pa_cons (pe_un un_neg (pv 1)) (pa_cons (pe_k c_law_turned  hr (by decide) (by rfl) (pa_cons (pv 0) (pa_cons (pv 2) pa_nil))) pa_nil)))))) pss_nil)
      (pss_cons (ps_par (i := 3) (j := 4) (by rfl) nd rfl rfl (by decide) rfl rfl (pa_cons (pe_tup pa_nil) (pa_cons (pv 2) pa_nil)) (by rfl))
      (pss_cons (ps_while PassesOwn.never (pt_cmpR op_gt (pv 1) pe_int (nomark _)) (C8.pss_cut (ps_if (pt_cmpR op_ne (pe_op op_mul (pe_op op_fdiv (pv 1) pe_int) pe_int) (pv 1) (nomark _)) (pss_one (ps_set (i := 3) nd rfl (by first | exact Or.inl rfl | exact Or.inr rfl) (pe_k c_law_sum  hr (by decide) (by rfl) (pa_cons (pv 0) (pa_cons (pv 3) (pa_cons (pv 4) pa_nil)))))) pss_nil)
      (pss_cons (ps_set (i := 1) nd rfl (by first | exact Or.inl rfl | exact Or.inr rfl) (pe_op op_fdiv (pv 1) pe_int))
      (pss_one (ps_if (pt_cmpR op_gt (pv 1) pe_int (nomark _)) (pss_one (ps_set (i := 4) nd rfl (by first | exact Or.inl rfl | exact Or.inr rfl) (pe_k c_law_sum  hr (by decide) (by rfl) (pa_cons (pv 0) (pa_cons (pv 4) (pa_cons (pv 4) pa_nil)))))) pss_nil)))))
      (pss_one (ps_ret (pv 3)))))), ?_⟩
      refine ⟨_, rfl, _, _, rfl, rfl, _, rfl, iteN (by simp) ?_⟩
      refine ⟨(by show 0 ≤ sizeLine; decide), fun z nz => ?_⟩
      have s1 := Same.new (H := H) (p := z) (o := .tup []) nz
      have gz : upd H z (.tup []) z = some (.tup []) := upd_same
      generalize upd H z (.tup []) = H1 at s1 gz ⊢
      
      refine ⟨_, rfl, _, _, rfl, ?_⟩
      first | refine sigN [some (.ref f), some (.int ((n : Int))), some (.ref p), some (.ref z), some (.ref p)] (by rfl) ?_ | refine sig [some (.ref f), some (.int ((n : Int))), some (.ref p), some (.ref z), some (.ref p)] (by rfl) ?_
      have hf1 := hf.same s1
      refine while_by (fun σ H2 => Same H1 H2 ∧ ∃ (j : Nat) (fo st : Addr) (F T : Pt), σ = [some (.ref f), some (.int (j : Int)), some (.ref p), some (.ref fo), some (.ref st)] ∧ PtT K H2 fo F ∧ PtT K H2 st T ∧ St e S n j F T)
        (fun σ _ => match σ with | [_, some (.int j), _, _, _] => j.toNat | _ => 0) ⟨Same.refl _, n, z, p, none, S, rfl, tup_of gz, hp.same s1, .a⟩ ?_ ?_
      · rintro σ H2 ⟨s2, j, fo, st, F, T, rfl, hF, hT, hs⟩
        obtain ⟨oF, oT, bF, bT⟩ := hs.ok hS hB hg
        refine ⟨_, rfl, _, _, rfl, rfl, _, rfl, ?_⟩
        by_cases hj : j = 0
        · refine iteN (by simp; omega) ?_
          exact ⟨_, rfl, q fo _ F (s1.trans s2) hF (hs.tms hj hn hS hB hg)⟩
        · refine iteY (by simp; omega) ?_
          have nx := hs.step hn hj
          have hf2 := hf1.same s2
          refine ⟨fun σ H3 => Same H2 H3 ∧ ∃ fo', σ = [some (.ref f), some (.int (j : Int)), some (.ref p), some (.ref fo'), some (.ref st)] ∧ PtT K H3 fo' (if j % 2 = 1 then sum e F T else F), ?_, ?_⟩
          · refine ⟨_, rfl, _, _, rfl, rfl, ⟨by decide, by decide⟩, _, _, rfl, rfl, Or.inr ⟨by decide, by decide⟩, _, rfl, rfl, _, rfl, ?_⟩
            by_cases hp2 : j % 2 = 1
            · refine iteY (by simp; omega) ?_
              refine ⟨_, rfl, _, rfl, _, rfl, f, fo, st, e, F, T, rfl, hf2, hg, hF, hT, oF, oT, bF, bT, fun t H3 s3 ht => ?_⟩
              refine ⟨s3, t, rfl, ?_⟩
              rw [if_pos hp2]
              exact ht
            · refine iteN (by simp; omega) ?_
              refine ⟨Same.refl _, fo, rfl, ?_⟩
              rw [if_neg hp2]
              exact hF
          · rintro σ H3 ⟨s3, fo', rfl, hF'⟩
            have ej : ((j : Int)) / 2 = ((j / 2 : Nat) : Int) := by omega
            refine ⟨_, rfl, _, _, rfl, rfl, ⟨by decide, by decide⟩, ?_⟩
            refine sigN [some (.ref f), some (.int ((j / 2 : Nat) : Int)), some (.ref p), some (.ref fo'), some (.ref st)] (by rw [← ej]; rfl) ?_
            refine ⟨_, rfl, _, _, rfl, rfl, _, rfl, ?_⟩
            have dj : ((j / 2 : Nat) : Int).toNat < (j : Int).toNat := by omega
            by_cases hz : 0 < j / 2
            · refine iteY (by simp; omega) ?_
              rw [if_pos hz] at nx
              refine ⟨_, rfl, _, rfl, _, rfl, f, st, st, e, T, T, rfl, hf2.same s3, hg, hT.same s3, hT.same s3, oT, oT, bT, bT, fun t H4 s4 ht => ?_⟩
              exact ⟨⟨s2.trans (s3.trans s4), j / 2, fo', t, _, _, rfl, hF'.same s4, ht, nx⟩, dj⟩
            · refine iteN (by simp; omega) ?_
              rw [if_neg hz] at nx
              exact ⟨⟨s2.trans s3, j / 2, fo', st, _, _, rfl, hF', hT.same s3, nx⟩, dj⟩
      · rintro σ H2 Q1 Q2 i ⟨v, hv, x, y, e1, e2, c, hc, k⟩
        exact ⟨v, hv, x, y, e1, e2, c, hc, i _ _ k⟩
    · have c_law_times_of := c_times0
      have hu1 := hu_of hr
      refine ⟨_, (pss_cons (ps_if (pt_cmpR op_lt (pv 1) pe_int (nomark _)) (pss_one (ps_ret (pe_k c_law_times_of  hr (by decide) (by rfl) (pa_cons (pv 0) (pa_cons (pe_un un_neg (pv 1)) (pa_cons (pe_k c_law_turned  hr (by decide) (by rfl) (pa_cons (pv 0) (pa_cons (pv 2) pa_nil))) pa_nil)))))) pss_nil)
      (pss_cons (ps_par (i := 3) (j := 4) (by rfl) nd rfl rfl (by decide) rfl rfl (pa_cons (pe_tup pa_nil) (pa_cons (pv 2) pa_nil)) (by rfl))
      (pss_cons (ps_while PassesOwn.never (pt_cmpR op_gt (pv 1) pe_int (nomark _)) (C8.pss_cut (ps_if (pt_cmpR op_ne (pe_op op_mul (pe_op op_fdiv (pv 1) pe_int) pe_int) (pv 1) (nomark _)) (pss_one (ps_set (i := 3) nd rfl (by first | exact Or.inl rfl | exact Or.inr rfl) (pe_k c_law_sum  hr (by decide) (by rfl) (pa_cons (pv 0) (pa_cons (pv 3) (pa_cons (pv 4) pa_nil)))))) pss_nil)
      (pss_cons (ps_set (i := 1) nd rfl (by first | exact Or.inl rfl | exact Or.inr rfl) (pe_op op_fdiv (pv 1) pe_int))
      (pss_one (ps_if (pt_cmpR op_gt (pv 1) pe_int (nomark _)) (pss_one (ps_set (i := 4) nd rfl (by first | exact Or.inl rfl | exact Or.inr rfl) (pe_k c_law_sum  hr (by decide) (by rfl) (pa_cons (pv 0) (pa_cons (pv 4) (pa_cons (pv 4) pa_nil)))))) pss_nil)))))
      (pss_one (ps_ret (pv 3)))))), ?_⟩
      refine ⟨_, rfl, _, _, rfl, rfl, _, rfl, iteY (by simp; omega) ?_⟩
      refine ⟨_, rfl, _, rfl, _, rfl, _, rfl, _, rfl, f, p, e, S, rfl, hf, hp, HB.pb hS (HB.up (h := 8) (k := 200) hB (by decide)) hg, fun t H1 s1 ht => ?_⟩
      refine ⟨f, t, e, n.natAbs, neg S, ?_, hf.same s1, hg, ht, hS.neg, neg_HB hB, by omega, fun t2 H2 T2 s2 ht2 h2 => ?_⟩
      · show [V.ref f, V.int (-n), V.ref t] = _
        rw [show -n = (n.natAbs : Int) by omega]
      · have e2 : n = -(n.natAbs : Int) := by omega
        have h3 := tms_neg h2
        rw [← e2] at h3
        exact q t2 H2 T2 (s1.trans s2) ht2 h3
end
end K53
set_option Elab.async false
set_option linter.all false
set_option maxRecDepth 100000
set_option maxHeartbeats 4000000
namespace K53
open PySem PySem.Spec PyProof.Rows L2 Gd QM EcM EcP
local macro_rules | `(tactic| walk_at "bd") => `(tactic| (repeat (first | assumption | apply B.add | apply B.sub | apply B.mul | apply B.neg | exact B.lit (n := 8) (by decide))))
local macro_rules | `(tactic| walk_at "bu") => `(tactic| (apply B.up; walk_at "bd"; decide))
local macro_rules | `(tactic| walk_at "bnd") => `(tactic| (apply B.mulW; walk_at "bd"; decide))
section
variable {P : Program} {w : World} {K : PySem.W.Frag} {mg : Str → Option Value} {base : Heap}
/-! ### the root of a fraction -/
theorem sqr_of {n r : Int} (h1 : r * r ≤ n) (h2 : n < (r + 1) * (r + 1)) (h0 : 0 ≤ r) (h : r * r ≠ n) : SqR n none := fun s e => h (sq_max h0 h1 (fun s hs h3 => by
  rcases Int.lt_or_le r s with z | z
  · have := Int.mul_le_mul (show r + 1 ≤ s by omega) (show r + 1 ≤ s by omega) (by omega) hs
    omega
  · exact z) e)
def sp_law_root_of (K : PySem.W.Frag) : Sp := fun vs H Q _ => ∃ (f : Addr) (a : Rat), vs = [.ref f] ∧ SqT K H f (fq a) ∧ RB 3900 a ∧ ∀ o v H', SqQ a o → Same H H' → RtO H' v o → Q v H'
abbrev s__law_root_of : Stmt := topS 36
theorem sc__law_root_of : FnScope ["f", "n", "d"] ["f"] (defScope s__law_root_of) := ⟨rfl, rfl, rfl, by decide +kernel, rfl, by decide +kernel, by decide +kernel⟩
theorem k_law_root_of (T : Tx K mg) (D : Df K mg "_law_root_of" s__law_root_of ["f"]) (c_law_root : Kl P w K mg base 1 "_law_root" (sp_law_root K)) : Kl P w K mg base 2 "_law_root_of" (sp_law_root_of K) := by
  have nd := sc__law_root_of.nd
  refine Kl.by_body D sc__law_root_of (fun vs H Q E h => ?_) (fun f cdv A outer s H vs Q E hr h => ?_)
  · obtain ⟨_, _, rfl, _⟩ := h
    rfl
  · obtain ⟨f, a, rfl, hf, hB, q⟩ := h
    have hu1 := hu_of hr
    refine ⟨_, (pss_cons (ps_if (pt_cmpR op_lt (pe_ix ix_tup (pv 0) pe_int (fun _ _ => rfl)) pe_int (nomark _)) (pss_one (ps_ret pe_non)) pss_nil)
      (pss_cons (ps_par (i := 1) (j := 2) (by rfl) nd rfl rfl (by decide) rfl rfl (pa_cons (pe_k c_law_root  hr (by decide) (by rfl) (pa_cons (pe_ix ix_tup (pv 0) pe_int (fun _ _ => rfl)) pa_nil)) (pa_cons (pe_k c_law_root  hr (by decide) (by rfl) (pa_cons (pe_ix ix_tup (pv 0) pe_int (fun _ _ => rfl)) pa_nil)) pa_nil)) (by rfl))
      (pss_one (ps_ret (pe_ifExp (PW.pt (pw_and (pt_cmpR op_eq (pe_op op_mulW (pv 1) (pv 1)) (pe_ix ix_tup (pv 0) pe_int (fun _ _ => rfl)) (nomark _)) (pw_and1 (pt_cmpR op_eq (pe_op op_mulW (pv 2) (pv 2)) (pe_ix ix_tup (pv 0) pe_int (fun _ _ => rfl)) (nomark _))))) (pe_tup (pa_cons (pv 1) (pa_cons (pv 2) pa_nil))) pe_non))))), ?_⟩
    refine ⟨_, rfl, f, _, 0, .int a.num, rfl, rfl, hf, rfl, _, _, rfl, rfl, _, rfl, ?_⟩
    by_cases hneg : a.num < 0
    · refine iteY (by simpa using hneg) ?_
      exact q none _ _ (SqQ.none1 (fun r e => by have := sq0 r; omega)) (Same.refl _) rfl
    refine iteN (by simpa using hneg) ?_
    refine ⟨_, rfl, f, _, 0, .int a.num, rfl, rfl, hf, rfl, a.num, rfl, by omega, hB.n, fun H1 n s1 n0 n1 n2 => ?_⟩
    refine ⟨_, rfl, f, _, 1, .int (a.den : Int), rfl, rfl, Same.tup s1 hf, rfl, (a.den : Int), rfl, by omega, hB.d, fun H2 d s2 d0 d1 d2 => ?_⟩
    have s02 := s1.trans s2
    have hf2 := Same.tup s02 hf
    refine ⟨_, _, rfl, ?_⟩
    have nB : B 3900 n := by
      have h1 := hB.n
      have := sq_le_self n0 n1
      unfold B at *
      omega
    have dB : B 3900 d := by
      have h1 := hB.d
      have := sq_le_self d0 d1
      unfold B at *
      omega
    first | refine sigN [some (.ref f), some (.int (n)), some (.int (d))] (by rfl) ?_ | refine sig [some (.ref f), some (.int (n)), some (.int (d))] (by rfl) ?_
    refine ⟨_, rfl, _, rfl, _, _, rfl, rfl, nB.mulW nB (by decide), _, rfl, f, _, 0, .int a.num, rfl, rfl, hf2, rfl, rfl, _, rfl, ?_⟩
    rw [dec_int]
    by_cases hn : n * n = a.num
    · refine iteY (by simpa using hn) ?_
      refine ⟨_, rfl, _, rfl, _, _, rfl, rfl, dB.mulW dB (by decide), _, rfl, f, _, 1, .int (a.den : Int), rfl, rfl, hf2, rfl, rfl, _, rfl, ?_⟩
      rw [dec_int]
      by_cases hd : d * d = (a.den : Int)
      · refine iteY (by simpa using hd) ?_
        refine ⟨_, rfl, _, rfl, (by show 2 ≤ sizeLine; decide), fun t nt => ?_⟩
        obtain ⟨r, hr1, rfl, rfl⟩ := SqQ.of ⟨n0, hn⟩ ⟨d0, hd⟩
        exact q (some r) _ _ hr1 (s02.trans (Same.new nt)) ⟨t, rfl, upd_same⟩
      · refine iteN (by simpa using hd) ?_
        exact q none _ _ (SqQ.none2 (sqr_of d1 d2 d0 hd)) s02 rfl
    · refine iteN (by simpa using hn) ?_
      exact q none _ _ (SqQ.none1 (sqr_of n1 n2 n0 hn)) s02 rfl
/-! ### the concord of a point -/
def sp_law_concord (K : PySem.W.Frag) : Sp := fun vs H Q _ => ∃ (m n : Int) (p : Addr) (S : Pt), vs = [.int m, .int n, .ref p] ∧ B 20 m ∧ B 20 n ∧ PtT K H p S ∧ HB 3800 S ∧ ∀ o v H', Con m n S o → Same H H' → TrO K H' v o → Q v H'
abbrev s__law_concord : Stmt := topS 37
theorem sc__law_concord : FnScope ["m", "n", "point", "roots", "k"] ["m", "n", "point"] (defScope s__law_concord) := ⟨rfl, rfl, rfl, by decide +kernel, rfl, by decide +kernel, by decide +kernel⟩
theorem k_law_concord (T : Tx K mg) (D : Df K mg "_law_concord" s__law_concord ["m", "n", "point"]) (c_law_root_of : Kl P w K mg base 2 "_law_root_of" (sp_law_root_of K)) (c_law_plus : Kl P w K mg base 3 "_law_plus" (sp_law_plus K)) : Kl P w K mg base 4 "_law_concord" (sp_law_concord K) := by
  have nd := sc__law_concord.nd
  refine Kl.by_body D sc__law_concord (fun vs H Q E h => ?_) (fun f cdv A outer s H vs Q E hr h => ?_)
  · obtain ⟨_, _, _, _, rfl, _⟩ := h
    rfl
  · obtain ⟨m, n, p, S, rfl, hm, hn, hp, hB, q⟩ := h
    have hu1 := hu_of hr
    refine ⟨_, (pss_cons (ps_if (PW.pt (pw_or (pt_cmpR (op_eqD hr.units) (pv 2) (pe_tup pa_nil) (nomark _)) (pw_or1 (pt_cmpR op_eq (pe_ix ix_tup (pe_ix ix_tup (pv 2) pe_int (fun _ _ => rfl)) pe_int (fun _ _ => rfl)) pe_int (nomark _))))) (pss_one (ps_ret pe_non)) pss_nil)
      (pss_cons (ps_setLc (i := 3) (own := [("k", 4)]) (g := gName 4) rfl nd rfl rfl (sw_true rfl rfl rfl (by decide +kernel)) (pi_tup (pe_tup (pa_cons pe_int (pa_cons (pv 0) (pa_cons (pv 1) pa_nil))))) (blkOk_by (N := ["m", "n", "point", "roots", "k"]) (sc := defScope s__law_concord) (by decide +kernel)) (fun _ _ _ _ _ => (pg_name (i := 4) nd rfl (by first | exact Or.inl rfl | exact Or.inr rfl))) (fun _ _ _ _ _ => pts_nil) (fun _ _ _ _ _ => (pe_k c_law_root_of  hr (by decide) (by rfl) (pa_cons (pe_k c_law_plus  hr (by decide) (by rfl) (pa_cons (pe_ix (ix_tupK (K := K) rfl) (pv 2) pe_int (fun _ _ => rfl)) (pa_cons (pe_tup (pa_cons (pv 4) (pa_cons pe_int pa_nil))) pa_nil))) pa_nil))))
      (pss_one (ps_ret (pe_ifExp (pt_cmpR (op_noneInT hr.units) pe_non (pv 3) rfl) pe_non (pe_tup (pa_cons (pe_ix ix_list (pv 3) pe_int (fun _ _ => rfl)) (pa_cons (pe_ix ix_list (pv 3) pe_int (fun _ _ => rfl)) (pa_cons (pe_ix ix_list (pv 3) pe_int (fun _ _ => rfl)) pa_nil))))))))), ?_⟩
    refine ⟨_, rfl, (by show 0 ≤ sizeLine; decide), fun e ne => ?_⟩
    have s1 := Same.new (H := H) (p := e) (o := .tup []) ne
    have ge : upd H e (.tup []) e = some (.tup []) := upd_same
    generalize upd H e (.tup []) = H1 at s1 ge ⊢
    cases S with
    | none =>
      refine ⟨dP none, .tuple [], dp_pt (hp.same s1), dp0 (tup_of ge), sh_P none, rfl, _, rfl, iteT ?_⟩
      exact q none _ _ rfl s1 rfl
    | some S =>
      obtain ⟨x, y⟩ := S
      obtain ⟨a, b, h1, h2, h3⟩ := hp
      refine ⟨dP (some (x, y)), .tuple [], dp_pt ⟨a, b, Same.tup s1 h1, Same.tup s1 h2, Same.tup s1 h3⟩, dp0 (tup_of ge), sh_P (some (x, y)), rfl, _, rfl, iteF ?_⟩
      refine ⟨_, rfl, p, _, 0, .ref a, rfl, rfl, Same.tup s1 h1, rfl, a, _, 0, .int x.num, rfl, rfl, Same.tup s1 h2, rfl, rfl, _, rfl, ?_⟩
      rw [dec_int]
      have s02 := s1
      have h1' := Same.tup s02 h1
      have h2' := Same.tup s02 h2
      by_cases x0 : x = 0
      · refine iteY (by rw [x0]; rfl) ?_
        exact q none _ _ (.inl ⟨x0, rfl⟩) s02 rfl
      refine iteN (by simpa using num_ne x0) ?_
      replace hB : RB 3800 x := hB
      refine ⟨_, rfl, _, rfl, (by show 3 ≤ sizeLine; decide), fun tz ntz => ?_⟩
      have s3 := Same.new (H := H1) (p := tz) (o := .tup [.int 0, .int m, .int n]) ntz
      have gtz : upd H1 tz (.tup [.int 0, .int m, .int n]) tz = some (.tup [.int 0, .int m, .int n]) := upd_same
      generalize upd H1 tz (.tup [.int 0, .int m, .int n]) = H3 at s3 gtz ⊢
      have s03 := s02.trans s3
      refine ⟨tz, rfl, ⟨_, tup_of gtz⟩, fun D hD => ?_⟩
      refine lc_tup (K := K) (a := tz) (xs := [.int 0, .int m, .int n]) (fun i H4 => Same H3 H4 ∧ RtD H4 D x [0, m, n] i) ⟨Same.new hD, RtD.new⟩ (fun i H4 _ z => tup_of (z.1 _ _ gtz)) (fun i v H4 hi z => ?_) (fun H4 z => ?_)
      · obtain ⟨s4, hd⟩ := z
        obtain ⟨k, hk, rfl⟩ : ∃ k : Int, [0, m, n][i]? = some k ∧ v = .int k := by
          rcases (show i = 0 ∨ i = 1 ∨ i = 2 ∨ 3 ≤ i by omega) with rfl | rfl | rfl | z
          · exact ⟨0, rfl, (Option.some.inj hi).symm⟩
          · exact ⟨m, rfl, (Option.some.inj hi).symm⟩
          · exact ⟨n, rfl, (Option.some.inj hi).symm⟩
          · rw [List.getElem?_eq_none (by simpa using z)] at hi
            cases hi
        have hkB : B 20 k := by
          have := List.mem_of_getElem? hk
          simp only [List.mem_cons, List.not_mem_nil, or_false] at this
          rcases this with rfl | rfl | rfl
          · exact B.lit (by decide)
          · exact hm
          · exact hn
        have hi3 : i < 3 := by
          have := (List.getElem?_eq_some_iff.mp hk).1
          simpa using this
        have s04 := s03.trans s4
        refine ⟨rfl, _, rfl, p, _, 0, .ref a, rfl, rfl, Same.tup s04 h1, rfl, _, rfl, (by show 2 ≤ sizeLine; decide), fun c nc => ?_⟩
        have s5 := Same.new (H := H4) (p := c) (o := .tup [.int k, .int 1]) nc
        have gc : upd H4 c (.tup [.int k, .int 1]) c = some (.tup [.int k, .int 1]) := upd_same
        generalize upd H4 c (.tup [.int k, .int 1]) = H5 at s5 gc ⊢
        have hkR : RB 20 ((k : Int) : Rat) := RB.int hkB (by decide)
        refine ⟨a, c, x, (k : Rat), rfl, Same.tup (s04.trans s5) h2, tup_of (by rw [fq_int]; exact gc), hB.up (by decide), hkR.up (by decide), trivial, fun t nt => ?_⟩
        have s6 := Same.new (H := H5) (p := t) (o := .tup (fq (x + (k : Rat)))) nt
        have gt : upd H5 t (.tup (fq (x + (k : Rat)))) t = some (.tup (fq (x + (k : Rat)))) := upd_same
        generalize upd H5 t (.tup (fq (x + (k : Rat)))) = H6 at s6 gt ⊢
        refine ⟨t, x + (k : Rat), rfl, tup_of gt, (RB.add hB hkR).up (by decide), fun o vv H7 ho s7 hv => ?_⟩
        obtain ⟨acc, g1, g2, g3⟩ := hd.push (v := vv) (o := o) (s5.trans (s6.trans s7)) hk ho hv (by omega)
        exact ⟨acc, g1, g2, Same.put (s4.trans (s5.trans (s6.trans s7))) hD, g3⟩
      · obtain ⟨s4, hd⟩ := z
        obtain ⟨u, v, w, o0, o1, o2, gD, q0, q1, q2, t0, t1, t2⟩ := hd.three
        rw [show x + ((0 : Int) : Rat) = x by grind] at q0
        have hcon : ∀ o, o = comb o0 o1 o2 → Con m n (some (x, y)) o := fun o e => .inr ⟨x0, o0, o1, o2, q0, q1, q2, e⟩
        have s04 := s03.trans s4
        refine ⟨_, rfl, D, [u, v, w], rfl, rfl, lst_of gD, fun z hz => ?_, _, rfl, ?_⟩
        · simp only [List.mem_cons, List.not_mem_nil, or_false] at hz
          rcases hz with rfl | rfl | rfl
          · exact t0.nt
          · exact t1.nt
          · exact t2.nt
        have ea : [u, v, w].any isNon = (o0.isNone || (o1.isNone || o2.isNone)) := by
          simp only [List.any_cons, List.any_nil, Bool.or_false]
          rw [t0.isn, t1.isn, t2.isn]
        rw [ea]
        match o0, o1, o2, t0, t1, t2, hcon with
        | none, _, _, _, _, _, hcon =>
          refine iteY rfl ?_
          exact q none _ _ (hcon _ rfl) s04 rfl
        | some r0, none, _, _, _, _, hcon =>
          refine iteY rfl ?_
          exact q none _ _ (hcon _ rfl) s04 rfl
        | some r0, some r1, none, _, _, _, hcon =>
          refine iteY rfl ?_
          exact q none _ _ (hcon _ rfl) s04 rfl
        | some r0, some r1, some r2, t0, t1, t2, hcon =>
          refine iteN Bool.false_ne_true ?_
          obtain ⟨a0, rfl, g0⟩ := t0
          obtain ⟨a1, rfl, g1⟩ := t1
          obtain ⟨a2, rfl, g2⟩ := t2
          refine ⟨_, rfl, D, _, 0, .ref a0, rfl, rfl, lst_of gD, rfl, _, rfl, D, _, 1, .ref a1, rfl, rfl, lst_of gD, rfl, _, rfl, D, _, 2, .ref a2, rfl, rfl, lst_of gD, rfl, (by show 3 ≤ sizeLine; decide), fun t nt => ?_⟩
          have st := Same.new (H := H4) (p := t) (o := .tup [.ref a0, .ref a1, .ref a2]) nt
          exact q (some (r0, r1, r2)) _ _ (hcon _ rfl) (s04.trans st) ⟨t, rfl, a0, a1, a2, tup_of upd_same, tup_of (st _ _ g0), tup_of (st _ _ g1), tup_of (st _ _ g2)⟩
/-! ### on the curve -/
theorem cubic_of (e : Ec) {x : Rat} {A D : Int} (h : x * (D : Rat) = (A : Rat)) (h0 : (D : Rat) ≠ 0) : Rat.divInt (A * A * A + e.a * A * A * D + (e.b * A + e.c * D) * D * D) (D * D * D) = e.f x := by
  rw [Rat.divInt_eq_div]
  push_cast
  rw [← h]
  unfold Ec.f
  generalize (D : Rat) = d at h0 ⊢
  grind
theorem cubic_is (e : Ec) (x : Rat) : Rat.divInt (x.num * x.num * x.num + e.a * x.num * x.num * (x.den : Int) + (e.b * x.num + e.c * (x.den : Int)) * (x.den : Int) * (x.den : Int)) ((x.den : Int) * (x.den : Int) * (x.den : Int)) = e.f x := cubic_of e (x_num x) (denR x)
def sp_law_cubic (K : PySem.W.Frag) : Sp := fun vs H Q _ => ∃ (f p : Addr) (e : Ec) (x : Rat), vs = [.ref f, .ref p] ∧ FivT K H f e ∧ e.Bd 15 ∧ SqT K H p (fq x) ∧ RB 200 x ∧ ∀ t, H t = none → Q (.ref t) (upd H t (.tup (fq (e.f x))))
abbrev s__law_cubic : Stmt := topS 30
theorem sc__law_cubic : FnScope ["five", "x", "n", "d", "first", "second"] ["five", "x"] (defScope s__law_cubic) := ⟨rfl, rfl, rfl, by decide +kernel, rfl, by decide +kernel, by decide +kernel⟩
theorem k_law_cubic (T : Tx K mg) (D : Df K mg "_law_cubic" s__law_cubic ["five", "x"]) (c_law_cut : Kl P w K mg base 2 "_law_cut" (sp_law_cut K)) : Kl P w K mg base 3 "_law_cubic" (sp_law_cubic K) := by
  have nd := sc__law_cubic.nd
  refine Kl.by_body D sc__law_cubic (fun vs H Q E h => ?_) (fun f cdv A outer s H vs Q E hr h => ?_)
  · obtain ⟨_, _, _, _, rfl, _⟩ := h
    rfl
  · obtain ⟨f, p, e, x, rfl, hf, hg, hp, hx, q⟩ := h
    have hu1 := hu_of hr
    refine ⟨_, (pss_cons (ps_asg (pv 1) (pg_tup rfl (pgs_cons (pg_name (i := 2) nd rfl (by first | exact Or.inl rfl | exact Or.inr rfl)) (pgs_cons (pg_name (i := 3) nd rfl (by first | exact Or.inl rfl | exact Or.inr rfl)) pgs_nil))))
      (pss_cons (ps_set (i := 4) nd rfl (by first | exact Or.inl rfl | exact Or.inr rfl) (pe_op op_add (pe_op op_mulW (pe_op op_mulW (pv 2) (pv 2)) (pv 2)) (pe_op op_mulW (pe_op op_mulW (pe_op op_mulW (pe_ix ix_tup (pv 0) pe_int (fun _ _ => rfl)) (pv 2)) (pv 2)) (pv 3))))
      (pss_cons (ps_set (i := 5) nd rfl (by first | exact Or.inl rfl | exact Or.inr rfl) (pe_op op_add (pe_op op_mulW (pe_ix ix_tup (pv 0) pe_int (fun _ _ => rfl)) (pv 2)) (pe_op op_mulW (pe_ix ix_tup (pv 0) pe_int (fun _ _ => rfl)) (pv 3))))
      (pss_one (ps_ret (pe_k c_law_cut  hr (by decide) (by rfl) (pa_cons (pe_op op_add (pv 4) (pe_op op_mulW (pe_op op_mulW (pv 5) (pv 3)) (pv 3))) (pa_cons (pe_op op_mulW (pe_op op_mulW (pv 3) (pv 3)) (pv 3)) pa_nil)))))))), ?_⟩
    have nB : B 200 x.num := hx.n
    have dB : B 200 (x.den : Int) := hx.d
    have aB : B 15 e.a := hg.a
    have bB : B 15 e.b := hg.b
    have cB : B 15 e.c := hg.c
    refine ⟨_, rfl, p, _, rfl, hp, rfl, _, _, rfl, _, _, rfl, rfl, ?_⟩
    first | refine sigN [some (.ref f), some (.ref p), some (.int (x.num)), some (.int ((x.den : Int))), none, none] (by rfl) ?_ | refine sig [some (.ref f), some (.ref p), some (.int (x.num)), some (.int ((x.den : Int))), none, none] (by rfl) ?_
    have hp1 : SqT K H f [.int 0, .int e.a, .int 0, .int e.b, .int e.c] := hf
    have b1 : B 700 (x.num * x.num * x.num + e.a * x.num * x.num * (x.den : Int)) := by walk_at "bu"
    have b2 : B 300 (e.b * x.num + e.c * (x.den : Int)) := by walk_at "bu"
    have b3 : B 900 (x.num * x.num * x.num + e.a * x.num * x.num * (x.den : Int) + (e.b * x.num + e.c * (x.den : Int)) * (x.den : Int) * (x.den : Int)) := by walk_at "bu"
    have b4 : B 900 ((x.den : Int) * (x.den : Int) * (x.den : Int)) := by walk_at "bu"
    have e0 := cubic_is e x
    have d0 := mul_ne (mul_ne (den_ne x) (den_ne x)) (den_ne x)
    generalize x.num = n at *
    generalize (x.den : Int) = d at *
    refine ⟨_, rfl, _, rfl, _, _, rfl, rfl, (by walk_at "bnd"), _, rfl, _, _, rfl, rfl, (by walk_at "bnd"), _, rfl, f, _, 1, .int e.a, rfl, rfl, hp1, rfl, _, rfl, _, _, rfl, rfl, (by walk_at "bnd"), _, rfl, _, _, rfl, rfl, (by walk_at "bnd"), _, rfl, _, _, rfl, rfl, (by walk_at "bnd"), _, _, rfl, rfl, ?_⟩
    first | refine sigN [some (.ref f), some (.ref p), some (.int (n)), some (.int (d)), some (.int (n * n * n + e.a * n * n * d)), none] (by rfl) ?_ | refine sig [some (.ref f), some (.ref p), some (.int (n)), some (.int (d)), some (.int (n * n * n + e.a * n * n * d)), none] (by rfl) ?_
    refine ⟨_, rfl, f, _, 3, .int e.b, rfl, rfl, hp1, rfl, _, rfl, _, _, rfl, rfl, (by walk_at "bnd"), _, rfl, f, _, 4, .int e.c, rfl, rfl, hp1, rfl, _, rfl, _, _, rfl, rfl, (by walk_at "bnd"), _, _, rfl, rfl, ?_⟩
    first | refine sigN [some (.ref f), some (.ref p), some (.int (n)), some (.int (d)), some (.int (n * n * n + e.a * n * n * d)), some (.int (e.b * n + e.c * d))] (by rfl) ?_ | refine sig [some (.ref f), some (.ref p), some (.int (n)), some (.int (d)), some (.int (n * n * n + e.a * n * n * d)), some (.int (e.b * n + e.c * d))] (by rfl) ?_
    refine ⟨_, rfl, _, rfl, _, rfl, _, _, rfl, rfl, b2.mulW dB (by decide), _, rfl, _, _, rfl, rfl, (b2.mul dB).mulW dB (by decide), _, _, rfl, rfl, _, rfl, _, rfl, _, _, rfl, rfl, dB.mulW dB (by decide), _, rfl, _, _, rfl, rfl, (dB.mul dB).mulW dB (by decide), _, _, rfl, d0, b3.up (by decide), b4.up (by decide), fun t nt => ?_⟩
    rw [e0]
    exact q t nt
def sp_law_on (K : PySem.W.Frag) : Sp := fun vs H Q _ => ∃ (f p : Addr) (e : Ec) (S : Pt), vs = [.ref f, .ref p] ∧ FivT K H f e ∧ e.Bd 15 ∧ PtT K H p S ∧ On e S ∧ HB 200 S ∧ ∀ H', Same H H' → Q (.bl true) H'
abbrev s__law_on : Stmt := topS 32
theorem sc__law_on : FnScope ["five", "point", "x", "y"] ["five", "point"] (defScope s__law_on) := ⟨rfl, rfl, rfl, by decide +kernel, rfl, by decide +kernel, by decide +kernel⟩
theorem k_law_on (T : Tx K mg) (D : Df K mg "_law_on" s__law_on ["five", "point"]) (c_law_by : Kl P w K mg base 3 "_law_by" (sp_law_by K)) (c_law_cubic : Kl P w K mg base 3 "_law_cubic" (sp_law_cubic K)) (c_law_plus : Kl P w K mg base 3 "_law_plus" (sp_law_plus K)) (c_law_bent : Kl P w K mg base 3 "_law_bent" (sp_law_bent K)) : Kl P w K mg base 4 "_law_on" (sp_law_on K) := by
  have nd := sc__law_on.nd
  refine Kl.by_body D sc__law_on (fun vs H Q E h => ?_) (fun f cdv A outer s H vs Q E hr h => ?_)
  · obtain ⟨_, _, _, _, rfl, _⟩ := h
    rfl
  · obtain ⟨f, p, e, S, rfl, hf, hg, hp, hS, hB, q⟩ := h
    have hu1 := hu_of hr
    refine ⟨_, (pss_cons (ps_if (pt_cmpR (op_eqD hr.units) (pv 1) (pe_tup pa_nil) (nomark _)) (pss_one (ps_ret pe_bl)) pss_nil)
      (pss_cons (ps_asg (pv 1) (pg_tup rfl (pgs_cons (pg_name (i := 2) nd rfl (by first | exact Or.inl rfl | exact Or.inr rfl)) (pgs_cons (pg_name (i := 3) nd rfl (by first | exact Or.inl rfl | exact Or.inr rfl)) pgs_nil))))
      (pss_one (ps_ret (pe_cmpR (op_eqD hr.units) (pe_k c_law_by  hr (by decide) (by rfl) (pa_cons (pv 3) (pa_cons (pe_k c_law_plus  hr (by decide) (by rfl) (pa_cons (pv 3) (pa_cons (pe_k c_law_bent  hr (by decide) (by rfl) (pa_cons (pv 0) (pa_cons (pv 2) pa_nil))) pa_nil))) pa_nil))) (pe_k c_law_cubic  hr (by decide) (by rfl) (pa_cons (pv 0) (pa_cons (pv 2) pa_nil))) (nomark _)))))), ?_⟩
    refine ⟨_, rfl, (by show 0 ≤ sizeLine; decide), fun z nz => ?_⟩
    have s1 := Same.new (H := H) (p := z) (o := .tup []) nz
    have gz : upd H z (.tup []) z = some (.tup []) := upd_same
    generalize upd H z (.tup []) = H1 at s1 gz ⊢
    cases S with
    | none =>
      refine ⟨dP none, .tuple [], dp_pt (hp.same s1), dp0 (tup_of gz), sh_P none, rfl, _, rfl, iteT ?_⟩
      exact q _ s1
    | some S =>
      obtain ⟨x, y⟩ := S
      obtain ⟨a, b, h1, h2, h3⟩ := hp
      replace hB : RB 200 x := hB
      have yB : RB 415 y := y_RB (h := 200) (g := 15) hS hB hg
      refine ⟨dP (some (x, y)), .tuple [], dp_pt ⟨a, b, Same.tup s1 h1, Same.tup s1 h2, Same.tup s1 h3⟩, dp0 (tup_of gz), sh_P (some (x, y)), rfl, _, rfl, iteF ?_⟩
      refine ⟨_, rfl, p, _, rfl, Same.tup s1 h1, rfl, _, _, rfl, _, _, rfl, rfl, ?_⟩
      first | refine sigN [some (.ref f), some (.ref p), some (.ref a), some (.ref b)] (by rfl) ?_ | refine sig [some (.ref f), some (.ref p), some (.ref a), some (.ref b)] (by rfl) ?_
      have h2' := Same.tup s1 h2
      have h3' := Same.tup s1 h3
      refine ⟨_, rfl, _, rfl, _, rfl, _, rfl, f, a, e, x, rfl, hf.same s1, h2', hB.up (by decide), fun c nc => ?_⟩
      have s2 := Same.new (H := H1) (p := c) (o := .tup (fq 0)) nc
      have gc : upd H1 c (.tup (fq 0)) c = some (.tup (fq 0)) := upd_same
      generalize upd H1 c (.tup (fq 0)) = H2 at s2 gc ⊢
      refine ⟨b, c, y, 0, rfl, Same.tup s2 h3', tup_of gc, yB.up (by decide), RB.zero.up (by decide), trivial, fun d nd => ?_⟩
      have s3 := Same.new (H := H2) (p := d) (o := .tup (fq (y + 0))) nd
      have gd : upd H2 d (.tup (fq (y + 0))) d = some (.tup (fq (y + 0))) := upd_same
      generalize upd H2 d (.tup (fq (y + 0))) = H3 at s3 gd ⊢
      have y0B : RB 417 (y + 0) := (RB.add yB RB.zero).up (by decide)
      refine ⟨b, d, y, y + 0, rfl, Same.tup (s2.trans s3) h3', tup_of gd, yB.up (by decide), y0B.up (by decide), trivial, fun g ng => ?_⟩
      have s4 := Same.new (H := H3) (p := g) (o := .tup (fq (y * (y + 0)))) ng
      have gg : upd H3 g (.tup (fq (y * (y + 0)))) g = some (.tup (fq (y * (y + 0)))) := upd_same
      generalize upd H3 g (.tup (fq (y * (y + 0)))) = H4 at s4 gg ⊢
      have s14 := s2.trans (s3.trans s4)
      refine ⟨_, rfl, _, rfl, f, a, e, x, rfl, hf.same (s1.trans s14), hg, Same.tup s14 h2', hB, fun r nr => ?_⟩
      have s5 := Same.new (H := H4) (p := r) (o := .tup (fq (e.f x))) nr
      have gr : upd H4 r (.tup (fq (e.f x))) r = some (.tup (fq (e.f x))) := upd_same
      generalize upd H4 r (.tup (fq (e.f x))) = H5 at s5 gr ⊢
      refine ⟨dq (y * (y + 0)), dq (e.f x), dp_q (tup_of (s5 _ _ gg)), dp_q (tup_of gr), rfl, rfl, ?_⟩
      rw [eqv_q]
      have e1 : y * (y + 0) = e.f x := by
        rw [Rat.add_zero]
        exact hS
      rw [decide_eq_true e1]
      exact q _ (s1.trans (s14.trans s5))
end
end K53
set_option Elab.async false
set_option linter.all false
set_option maxRecDepth 100000
set_option maxHeartbeats 4000000
namespace K53
open PySem PySem.Spec PyProof.Rows L2 Gd QM EcM EcP
/-- a concord that is drawn -/
structure Drawn (M N : Int) (c : C3) : Prop where
  t0 : c.1 ≠ 0
  tn : 0 ≤ c.1
  un : 0 ≤ c.2.1
  vn : 0 ≤ c.2.2
  eu : c.2.1 * c.2.1 = c.1 * c.1 + (M : Rat)
  ev : c.2.2 * c.2.2 = c.1 * c.1 + (N : Rat)
  ne : M ≠ N
  p : B 14 (M * N)
  s : B 14 (M + N)
  bM : B 8 M
  bN : B 8 N
  b1 : RB 4 c.1
  b2 : RB 4 c.2.1
  b3 : RB 4 c.2.2
theorem div_nn {t s : Int} (h : 0 ≤ t) (k : 0 < s) : 0 ≤ Rat.divInt t s := Rat.divInt_nonneg h (Int.le_of_lt k)
theorem div_sq {t u s M : Int} (h : u * u - t * t = M * (s * s)) (k : s ≠ 0) : Rat.divInt u s * Rat.divInt u s = Rat.divInt t s * Rat.divInt t s + (M : Rat) := by
  have k0 : (s : Rat) ≠ 0 := fun z => k (by exact_mod_cast z)
  have h2 : (u : Rat) * u - (t : Rat) * t = (M : Rat) * ((s : Rat) * s) := by exact_mod_cast h
  rw [Rat.divInt_eq_div, Rat.divInt_eq_div]
  generalize (u : Rat) = u at h2 ⊢
  generalize (t : Rat) = t at h2 ⊢
  generalize (s : Rat) = s at h2 k0 ⊢
  generalize (M : Rat) = M at h2 ⊢
  grind
theorem small_M {u t s M : Int} (h : u * u - t * t = M * (s * s)) (u0 : 0 ≤ u) (u1 : u ≤ 14) (t0 : 0 ≤ t) (t1 : t ≤ 14) (s0 : 1 ≤ s) : B 8 M := by
  have h1 := Int.mul_le_mul u1 u1 u0 (by decide)
  have h2 := Int.mul_le_mul t1 t1 t0 (by decide)
  have h3 := sq0 u
  have h4 := sq0 t
  have h5 : 1 ≤ s * s := by
    have := Int.mul_le_mul s0 s0 (by decide) (by omega)
    omega
  unfold B
  have h6 : M.natAbs * (s * s).natAbs = (u * u - t * t).natAbs := by rw [h]; exact (Int.natAbs_mul _ _).symm
  have h7 : M.natAbs * 1 ≤ M.natAbs * (s * s).natAbs := Nat.mul_le_mul_left _ (by omega)
  omega
theorem drawn_of {s t u v M N : Int} (s0 : 1 ≤ s) (s1 : s ≤ 4) (t0 : 1 ≤ t) (t1 : t ≤ 14) (u0 : 0 ≤ u) (u1 : u ≤ 14) (v0 : 0 ≤ v) (v1 : v ≤ 14) (hM : u * u - t * t = M * (s * s)) (hN : v * v - t * t = N * (s * s)) (ne : M ≠ N) (hp : (M * N).natAbs ≤ 10000) (hs : (M + N).natAbs ≤ 10000) : Drawn M N (Rat.divInt t s, Rat.divInt u s, Rat.divInt v s) := by
  have sz : s ≠ 0 := by omega
  refine ⟨?_, div_nn (by omega) (by omega), div_nn u0 (by omega), div_nn v0 (by omega), div_sq hM sz, div_sq hN sz, ne, ?_, ?_, small_M hM u0 u1 (by omega) t1 s0, small_M hN v0 v1 (by omega) t1 s0, RB.of sz (by omega) (by omega), RB.of sz (by omega) (by omega), RB.of sz (by omega) (by omega)⟩
  · show Rat.divInt t s ≠ 0
    intro z
    have k0 : (s : Rat) ≠ 0 := fun z => sz (by exact_mod_cast z)
    rw [Rat.divInt_eq_div] at z
    have h2 : (t : Rat) / (s : Rat) * (s : Rat) = (t : Rat) := Rat.div_mul_cancel k0
    rw [z, Rat.zero_mul] at h2
    have h3 : (0 : Int) = t := by exact_mod_cast h2
    omega
  · unfold B
    omega
  · unfold B
    omega
theorem drawn_0 : Drawn (-6) 6 (Rat.divInt 5 2, Rat.divInt 1 2, Rat.divInt 7 2) := by
  refine drawn_of (s := 2) (t := 5) (u := 1) (v := 7) ?_ ?_ ?_ ?_ ?_ ?_ ?_ ?_ ?_ ?_ ?_ ?_ ?_ <;> decide
section
variable {P : Program} {w : World} {K : PySem.W.Frag} {mg : Str → Option Value} {base : Heap}
def sp_law_drawn (K : PySem.W.Frag) : Sp := fun vs H Q _ => ∃ (m cl : Addr) (n : Nat), vs = [.ref m] ∧ n ≤ 1000 ∧ MAt H m cl n ∧ ∀ H' t tc M N c, But m H H' → MAt H' m cl (n + 240) → SqT K H' t [.int M, .int N, .ref tc] → TrT K H' tc c → Drawn M N c → Q (.ref t) H'
abbrev s__law_drawn : Stmt := topS 38
theorem sc__law_drawn : FnScope ["m", "lap", "s", "t", "u", "v", "one", "two"] ["m"] (defScope s__law_drawn) := ⟨rfl, rfl, rfl, by decide +kernel, rfl, by decide +kernel, by decide +kernel⟩
theorem k_law_drawn (T : Tx K mg) (D : Df K mg "_law_drawn" s__law_drawn ["m"]) (c_law_draw : Kl P w K mg base 1 "_law_draw" (sp_law_draw K)) (c_law_cut : Kl P w K mg base 2 "_law_cut" (sp_law_cut K)) : Kl P w K mg base 3 "_law_drawn" (sp_law_drawn K) := by
  have nd := sc__law_drawn.nd
  refine Kl.by_body D sc__law_drawn (fun vs H Q E h => ?_) (fun f cdv A outer s H vs Q E hr h => ?_)
  · obtain ⟨_, _, _, rfl, _⟩ := h
    rfl
  · obtain ⟨m, cl, n, rfl, hn, hM, q⟩ := h
    have hu1 := hu_of hr
    refine ⟨_, (pss_cons (ps_for PassesOwn.never rfl (pi_range1 (by rfl) T.range (pa_cons pe_int pa_nil)) (pg_name (i := 1) nd rfl (by first | exact Or.inl rfl | exact Or.inr rfl)) (pss_cons (ps_par (i := 2) (j := 3) (by rfl) nd rfl rfl (by decide) rfl rfl (pa_cons (pe_op op_add pe_int (pe_k c_law_draw  hr (by decide) (by rfl) (pa_cons (pv 0) (pa_cons pe_int pa_nil)))) (pa_cons (pe_op op_add pe_int (pe_k c_law_draw  hr (by decide) (by rfl) (pa_cons (pv 0) (pa_cons pe_int pa_nil)))) pa_nil)) (by rfl))
      (pss_cons (ps_par (i := 4) (j := 5) (by rfl) nd rfl rfl (by decide) rfl rfl (pa_cons (pe_k c_law_draw  hr (by decide) (by rfl) (pa_cons (pv 0) (pa_cons pe_int pa_nil))) (pa_cons (pe_k c_law_draw  hr (by decide) (by rfl) (pa_cons (pv 0) (pa_cons pe_int pa_nil))) pa_nil)) (by rfl))
      (pss_cons (ps_par (i := 6) (j := 7) (by rfl) nd rfl rfl (by decide) rfl rfl (pa_cons (pe_op op_sub (pe_op op_mulW (pv 4) (pv 4)) (pe_op op_mulW (pv 3) (pv 3))) (pa_cons (pe_op op_sub (pe_op op_mulW (pv 5) (pv 5)) (pe_op op_mulW (pv 3) (pv 3))) pa_nil)) (by rfl))
      (pss_one (ps_if (PW.pt (pw_and (pt_cmpR op_eq (pe_op op_mod (pe_callTy call_intI (by rfl) T.int (by decide +kernel) (pa_cons (pv 6) pa_nil)) (pe_op op_mulW (pv 2) (pv 2))) pe_int (nomark _)) (pw_and (pt_cmpR op_eq (pe_op op_mod (pe_callTy call_intI (by rfl) T.int (by decide +kernel) (pa_cons (pv 7) pa_nil)) (pe_op op_mulW (pv 2) (pv 2))) pe_int (nomark _)) (pw_and (pt_cmpR op_ne (pv 6) (pv 7) (nomark _)) (pw_and1 (pt_cmpR op_ne (pe_op op_mulW (pv 6) (pv 7)) pe_int (nomark _))))))) (pss_cons (ps_par (i := 6) (j := 7) (by rfl) nd rfl rfl (by decide) rfl rfl (pa_cons (pe_op op_fdivAny (pv 6) (pe_op op_mulW (pv 2) (pv 2))) (pa_cons (pe_op op_fdivAny (pv 7) (pe_op op_mulW (pv 2) (pv 2))) pa_nil)) (by rfl))
      (pss_one (ps_if (PW.pt (pw_and (pt_cmpR op_le (pe_callB call_abs (by rfl) T.abs (by decide +kernel) (pa_cons (pe_op op_mulW (pv 6) (pv 7)) pa_nil)) pe_int (nomark _)) (pw_and1 (pt_cmpR op_le (pe_callB call_abs (by rfl) T.abs (by decide +kernel) (pa_cons (pe_op op_add (pv 6) (pv 7)) pa_nil)) pe_int (nomark _))))) (pss_one (ps_ret (pe_tup (pa_cons (pv 6) (pa_cons (pv 7) (pa_cons (pe_tup (pa_cons (pe_k c_law_cut  hr (by decide) (by rfl) (pa_cons (pv 3) (pa_cons (pv 2) pa_nil))) (pa_cons (pe_k c_law_cut  hr (by decide) (by rfl) (pa_cons (pv 4) (pa_cons (pv 2) pa_nil))) (pa_cons (pe_k c_law_cut  hr (by decide) (by rfl) (pa_cons (pv 5) (pa_cons (pv 2) pa_nil))) pa_nil)))) pa_nil)))))) pss_nil))) pss_nil))))))
      (pss_one (ps_ret (pe_tup (pa_cons (pe_un un_neg pe_int) (pa_cons pe_int (pa_cons (pe_tup (pa_cons (pe_tup (pa_cons pe_int (pa_cons pe_int pa_nil))) (pa_cons (pe_tup (pa_cons pe_int (pa_cons pe_int pa_nil))) (pa_cons (pe_tup (pa_cons pe_int (pa_cons pe_int pa_nil))) pa_nil)))) pa_nil))))))), ?_⟩
    refine ⟨60, rfl, by decide, by decide, for_range (lo := 0) (n := 60) (fun i σ H2 => But m H H2 ∧ MAt H2 m cl (n + 4 * i) ∧ ∃ v1 v2 v3 v4 v5 v6 v7 : Option V, σ = [some (.ref m), v1, v2, v3, v4, v5, v6, v7]) ⟨But.refl m H, hM, none, none, none, none, none, none, none, rfl⟩ ?_ ?_⟩
    · rintro i σ H2 hi ⟨b2, m2, v1, v2, v3, v4, v5, v6, v7, rfl⟩
      first | refine sigN [some (.ref m), some (.int (0 + (i : Int))), v2, v3, v4, v5, v6, v7] (by rfl) ?_ | refine sig [some (.ref m), some (.int (0 + (i : Int))), v2, v3, v4, v5, v6, v7] (by rfl) ?_
      refine ⟨_, rfl, m, cl, 4, _, rfl, by decide, by decide, by omega, m2, fun H3 s b3 m3 s0 s1 => ⟨_, _, rfl, rfl, ?_⟩⟩
      refine ⟨_, rfl, m, cl, 14, _, rfl, by decide, by decide, by omega, m3, fun H4 t b4 m4 t0 t1 => ⟨_, _, rfl, rfl, _, _, rfl, ?_⟩⟩
      first | refine sigN [some (.ref m), some (.int (0 + (i : Int))), some (.int (1 + s)), some (.int (1 + t)), v4, v5, v6, v7] (by rfl) ?_ | refine sig [some (.ref m), some (.int (0 + (i : Int))), some (.int (1 + s)), some (.int (1 + t)), v4, v5, v6, v7] (by rfl) ?_
      obtain ⟨s, hs⟩ : ∃ s' : Int, 1 + s = s' := ⟨_, rfl⟩
      obtain ⟨t, ht⟩ : ∃ s' : Int, 1 + t = s' := ⟨_, rfl⟩
      rw [hs, ht]
      refine ⟨_, rfl, m, cl, 15, _, rfl, by decide, by decide, by omega, m4, fun H5 u b5 m5 u0 u1 => ?_⟩
      refine ⟨_, rfl, m, cl, 15, _, rfl, by decide, by decide, by omega, m5, fun H6 v b6 m6 v0 v1 => ⟨_, _, rfl, ?_⟩⟩
      first | refine sigN [some (.ref m), some (.int (0 + (i : Int))), some (.int (s)), some (.int (t)), some (.int (u)), some (.int (v)), v6, v7] (by rfl) ?_ | refine sig [some (.ref m), some (.int (0 + (i : Int))), some (.int (s)), some (.int (t)), some (.int (u)), some (.int (v)), v6, v7] (by rfl) ?_
      have bA := b2.trans (b3.trans (b4.trans (b5.trans b6)))
      have mA : MAt H6 m cl (n + 4 * (i + 1)) := m6.up (by omega)
      clear b2 b3 b4 b5 b6 m2 m3 m4 m5 m6
      have sB : B 4 s := by
        unfold Gd.B
        omega
      have tB : B 5 t := by
        unfold Gd.B
        omega
      have uB : B 5 u := by
        unfold Gd.B
        omega
      have vB : B 5 v := by
        unfold Gd.B
        omega
      refine ⟨_, rfl, _, rfl, _, _, rfl, rfl, uB.mulW uB (by decide), _, rfl, _, rfl, _, _, rfl, rfl, tB.mulW tB (by decide), _, _, rfl, rfl, _, rfl, _, rfl, _, _, rfl, rfl, vB.mulW vB (by decide), _, rfl, _, rfl, _, _, rfl, rfl, tB.mulW tB (by decide), _, _, rfl, rfl, _, _, rfl, ?_⟩
      first | refine sigN [some (.ref m), some (.int (0 + (i : Int))), some (.int (s)), some (.int (t)), some (.int (u)), some (.int (v)), some (.int (u * u - t * t)), some (.int (v * v - t * t))] (by rfl) ?_ | refine sig [some (.ref m), some (.int (0 + (i : Int))), some (.int (s)), some (.int (t)), some (.int (u)), some (.int (v)), some (.int (u * u - t * t)), some (.int (v * v - t * t))] (by rfl) ?_
      have oneB : B 12 (u * u - t * t) := ((uB.mul uB).sub (tB.mul tB)).up (by decide)
      have twoB : B 12 (v * v - t * t) := ((vB.mul vB).sub (tB.mul tB)).up (by decide)
      obtain ⟨one, hone⟩ : ∃ z, u * u - t * t = z := ⟨_, rfl⟩
      obtain ⟨two, htwo⟩ : ∃ z, v * v - t * t = z := ⟨_, rfl⟩
      rw [hone, htwo]
      rw [hone] at oneB
      rw [htwo] at twoB
      have again : ∀ x y : Int, But m H H6 ∧ MAt H6 m cl (n + 4 * (i + 1)) ∧ ∃ v1 v2 v3 v4 v5 v6 v7 : Option V, [some (V.ref m), some (.int (0 + (i : Int))), some (.int s), some (.int t), some (.int u), some (.int v), some (.int x), some (.int y)] = [some (.ref m), v1, v2, v3, v4, v5, v6, v7] := fun x y => ⟨bA, mA, _, _, _, _, _, _, _, rfl⟩
      have ss : 1 ≤ s * s := by
        have := Int.mul_le_mul (show 1 ≤ s by omega) (show 1 ≤ s by omega) (by decide) (by omega)
        omega
      refine ⟨_, rfl, _, rfl, _, rfl, _, rfl, _, _, rfl, rfl, sB.mulW sB (by decide), _, _, rfl, rfl, by omega, rfl, _, rfl, ?_⟩
      rw [dec_int]
      by_cases c1 : one % (s * s) = 0
      · refine iteY (by simpa using c1) ?_
        refine ⟨_, rfl, _, rfl, _, rfl, _, rfl, _, _, rfl, rfl, sB.mulW sB (by decide), _, _, rfl, rfl, by omega, rfl, _, rfl, ?_⟩
        rw [dec_int]
        by_cases c2 : two % (s * s) = 0
        · refine iteY (by simpa using c2) ?_
          refine ⟨_, rfl, _, rfl, rfl, _, rfl, ?_⟩
          rw [dec_int]
          by_cases c3 : one = two
          · refine iteN (by simpa using c3) ?_
            exact again _ _
          · refine iteY (by simpa using c3) ?_
            refine ⟨_, rfl, _, rfl, _, _, rfl, rfl, oneB.mulW twoB (by decide), rfl, _, rfl, ?_⟩
            rw [dec_int]
            by_cases c4 : one * two = 0
            · refine iteN (by rw [c4]; decide) ?_
              exact again _ _
            · refine iteY (by simpa using c4) ?_
              have dv : CDivAny one (s * s) := div_any (m := 8) (by omega) (sB.mul sB) (by decide)
              have dv2 : CDivAny two (s * s) := div_any (m := 8) (by omega) (sB.mul sB) (by decide)
              refine ⟨_, rfl, _, rfl, _, rfl, _, _, rfl, rfl, sB.mulW sB (by decide), _, _, rfl, rfl, dv, _, rfl, _, rfl, _, rfl, _, _, rfl, rfl, sB.mulW sB (by decide), _, _, rfl, rfl, dv2, _, _, rfl, ?_⟩
              first | refine sigN [some (.ref m), some (.int (0 + (i : Int))), some (.int (s)), some (.int (t)), some (.int (u)), some (.int (v)), some (.int (one.fdiv (s * s))), some (.int (two.fdiv (s * s)))] (by rfl) ?_ | refine sig [some (.ref m), some (.int (0 + (i : Int))), some (.int (s)), some (.int (t)), some (.int (u)), some (.int (v)), some (.int (one.fdiv (s * s))), some (.int (two.fdiv (s * s)))] (by rfl) ?_
              have hM : one = one.fdiv (s * s) * (s * s) := by
                rw [Int.fdiv_eq_ediv_of_nonneg _ (by omega)]
                exact (Int.ediv_mul_cancel (Int.dvd_of_emod_eq_zero c1)).symm
              have hN : two = two.fdiv (s * s) * (s * s) := by
                rw [Int.fdiv_eq_ediv_of_nonneg _ (by omega)]
                exact (Int.ediv_mul_cancel (Int.dvd_of_emod_eq_zero c2)).symm
              generalize one.fdiv (s * s) = M at hM ⊢
              generalize two.fdiv (s * s) = N at hN ⊢
              have MB : B 8 M := small_M (hone.trans hM) u0 (by omega) (by omega) (by omega) (by omega)
              have NB : B 8 N := small_M (htwo.trans hN) v0 (by omega) (by omega) (by omega) (by omega)
              have mne : M ≠ N := fun z => c3 (by rw [hM, hN, z])
              refine ⟨_, rfl, _, rfl, _, _, rfl, rfl, MB.mulW NB (by decide), _, rfl, _, _, rfl, rfl, _, rfl, ?_⟩
              rw [abs_eq]
              by_cases c5 : ((M * N).natAbs : Int) ≤ 10000
              · refine iteY (decide_eq_true c5) ?_
                refine ⟨_, rfl, _, rfl, _, _, rfl, rfl, _, rfl, _, _, rfl, rfl, _, rfl, ?_⟩
                rw [abs_eq]
                by_cases c6 : ((M + N).natAbs : Int) ≤ 10000
                · refine iteY (decide_eq_true c6) ?_
                  have dr := drawn_of (s := s) (t := t) (u := u) (v := v) (by omega) (by omega) (by omega) (by omega) u0 (by omega) v0 (by omega) (hone.trans hM) (htwo.trans hN) mne (by omega) (by omega)
                  have sz : s ≠ 0 := by omega
                  refine ⟨_, rfl, _, rfl, _, rfl, _, rfl, t, s, rfl, sz, tB.up (by decide), sB.up (by decide), fun p1 n1 => ?_⟩
                  have s7 := Same.new (H := H6) (p := p1) (o := .tup (fq (Rat.divInt t s))) n1
                  have g7 : upd H6 p1 (.tup (fq (Rat.divInt t s))) p1 = some (.tup (fq (Rat.divInt t s))) := upd_same
                  generalize upd H6 p1 (.tup (fq (Rat.divInt t s))) = H7 at s7 g7 ⊢
                  refine ⟨_, rfl, _, rfl, u, s, rfl, sz, uB.up (by decide), sB.up (by decide), fun p2 n2 => ?_⟩
                  have s8 := Same.new (H := H7) (p := p2) (o := .tup (fq (Rat.divInt u s))) n2
                  have g8 : upd H7 p2 (.tup (fq (Rat.divInt u s))) p2 = some (.tup (fq (Rat.divInt u s))) := upd_same
                  generalize upd H7 p2 (.tup (fq (Rat.divInt u s))) = H8 at s8 g8 ⊢
                  refine ⟨_, rfl, _, rfl, v, s, rfl, sz, vB.up (by decide), sB.up (by decide), fun p3 n3 => ?_⟩
                  have s9 := Same.new (H := H8) (p := p3) (o := .tup (fq (Rat.divInt v s))) n3
                  have g9 : upd H8 p3 (.tup (fq (Rat.divInt v s))) p3 = some (.tup (fq (Rat.divInt v s))) := upd_same
                  generalize upd H8 p3 (.tup (fq (Rat.divInt v s))) = H9 at s9 g9 ⊢
                  refine ⟨(by show 3 ≤ sizeLine; decide), fun tc ntc => ?_⟩
                  have s10 := Same.new (H := H9) (p := tc) (o := .tup [.ref p1, .ref p2, .ref p3]) ntc
                  have g10 : upd H9 tc (.tup [.ref p1, .ref p2, .ref p3]) tc = some (.tup [.ref p1, .ref p2, .ref p3]) := upd_same
                  generalize upd H9 tc (.tup [.ref p1, .ref p2, .ref p3]) = H10 at s10 g10 ⊢
                  refine ⟨(by show 3 ≤ sizeLine; decide), fun r nr => ?_⟩
                  have s11 := Same.new (H := H10) (p := r) (o := .tup [.int M, .int N, .ref tc]) nr
                  have sA := s7.trans (s8.trans (s9.trans (s10.trans s11)))
                  exact q _ r tc M N _ (bA.trans (But.of sA)) ((mA.same sA).up (by omega)) (tup_of upd_same) ⟨p1, p2, p3, tup_of (s11 _ _ g10), tup_of ((s8.trans (s9.trans (s10.trans s11))) _ _ g7), tup_of ((s9.trans (s10.trans s11)) _ _ g8), tup_of ((s10.trans s11) _ _ g9)⟩ dr
                · refine iteN (by simpa using c6) ?_
                  exact again _ _
              · refine iteN (by simpa using c5) ?_
                exact again _ _
        · refine iteN (by simpa using c2) ?_
          exact again _ _
      · refine iteN (by simpa using c1) ?_
        exact again _ _
    · rintro σ H2 ⟨b2, m2, v1, v2, v3, v4, v5, v6, v7, rfl⟩
      refine ⟨_, rfl, (by show 2 ≤ sizeLine; decide), fun p1 n1 => ?_⟩
      have s7 := Same.new (H := H2) (p := p1) (o := .tup [.int 5, .int 2]) n1
      have g7 : upd H2 p1 (.tup [.int 5, .int 2]) p1 = some (.tup [.int 5, .int 2]) := upd_same
      generalize upd H2 p1 (.tup [.int 5, .int 2]) = H7 at s7 g7 ⊢
      refine ⟨(by show 2 ≤ sizeLine; decide), fun p2 n2 => ?_⟩
      have s8 := Same.new (H := H7) (p := p2) (o := .tup [.int 1, .int 2]) n2
      have g8 : upd H7 p2 (.tup [.int 1, .int 2]) p2 = some (.tup [.int 1, .int 2]) := upd_same
      generalize upd H7 p2 (.tup [.int 1, .int 2]) = H8 at s8 g8 ⊢
      refine ⟨(by show 2 ≤ sizeLine; decide), fun p3 n3 => ?_⟩
      have s9 := Same.new (H := H8) (p := p3) (o := .tup [.int 7, .int 2]) n3
      have g9 : upd H8 p3 (.tup [.int 7, .int 2]) p3 = some (.tup [.int 7, .int 2]) := upd_same
      generalize upd H8 p3 (.tup [.int 7, .int 2]) = H9 at s9 g9 ⊢
      refine ⟨(by show 3 ≤ sizeLine; decide), fun tc ntc => ?_⟩
      have s10 := Same.new (H := H9) (p := tc) (o := .tup [.ref p1, .ref p2, .ref p3]) ntc
      have g10 : upd H9 tc (.tup [.ref p1, .ref p2, .ref p3]) tc = some (.tup [.ref p1, .ref p2, .ref p3]) := upd_same
      generalize upd H9 tc (.tup [.ref p1, .ref p2, .ref p3]) = H10 at s10 g10 ⊢
      refine ⟨(by show 3 ≤ sizeLine; decide), fun r nr => ?_⟩
      have s11 := Same.new (H := H10) (p := r) (o := .tup [.int (-6), .int 6, .ref tc]) nr
      have sA := s7.trans (s8.trans (s9.trans (s10.trans s11)))
      have e1 : fq (Rat.divInt 5 2) = [.int 5, .int 2] := by decide +kernel
      have e2 : fq (Rat.divInt 1 2) = [.int 1, .int 2] := by decide +kernel
      have e3 : fq (Rat.divInt 7 2) = [.int 7, .int 2] := by decide +kernel
      rw [← e1] at g7
      rw [← e2] at g8
      rw [← e3] at g9
      exact q _ r tc (-6) 6 _ (b2.trans (But.of sA)) ((m2.same sA).up (by omega)) (tup_of upd_same) ⟨p1, p2, p3, tup_of (s11 _ _ g10), tup_of ((s8.trans (s9.trans (s10.trans s11))) _ _ g7), tup_of ((s9.trans (s10.trans s11)) _ _ g8), tup_of ((s10.trans s11) _ _ g9)⟩ drawn_0
end
end K53
set_option Elab.async false
set_option linter.all false
set_option maxRecDepth 100000
set_option maxHeartbeats 4000000
namespace K53
open PySem PySem.Spec PyProof.Rows L2 Gd QM EcM EcP
local macro_rules | `(tactic| walk_at "mm") => `(tactic| (repeat (first | exact List.mem_cons_self | apply List.mem_cons_of_mem)))
/-! ### concords and points as data -/
def dC (c : C3) : PyData := .tuple [dq c.1, dq c.2.1, dq c.2.2]
def dO : Option C3 → PyData
  | none => .none
  | some c => dC c
theorem dp_C {K : PySem.W.Frag} {H : Hp} {p : Addr} {c : C3} (h : TrT K H p c) : Dp K H (.ref p) (dC c) := by
  obtain ⟨a, b, d, h0, h1, h2, h3⟩ := h
  exact .tup h0 (.cons (dp_q h1) (.cons (dp_q h2) (.cons (dp_q h3) .nil)))
theorem dp_O {K : PySem.W.Frag} {H : Hp} {v : V} {c : Option C3} (h : TrO K H v c) : Dp K H v (dO c) := by
  match c, h with
  | none, h =>
    rw [show v = .non from h]
    exact .non
  | some c, ⟨p, h1, h2⟩ =>
    rw [h1]
    exact dp_C h2
structure CB (m : Nat) (c : C3) : Prop where
  b1 : RB m c.1
  b2 : RB m c.2.1
  b3 : RB m c.2.2
theorem C_ok {c : C3} (h : CB 1800 c) : okD (dC c) = true ∧ (dC c).depth ≤ 40 ∧ wt (dC c) ≤ 1000000 := by
  refine ⟨?_, ?_, ?_⟩
  · have e1 := okq h.b1 (by decide)
    have e2 := okq h.b2 (by decide)
    have e3 := okq h.b3 (by decide)
    simp [okD, okAll, dC, e1, e2, e3]
  · simp [PyData.depth, PyData.depthAll, dC, dq]
  · simp [wt, wtAll, dC, dq]
theorem O_ok {c : Option C3} (h : ∀ d, c = some d → CB 1800 d) : okD (dO c) = true ∧ (dO c).depth ≤ 40 ∧ wt (dO c) ≤ 1000000 := by
  match c, h with
  | none, _ => exact ⟨rfl, by decide, by decide⟩
  | some c, h => exact C_ok (h c rfl)
theorem P_ok {P : Pt} (h : PB 1800 P) : okD (dP P) = true ∧ (dP P).depth ≤ 40 ∧ wt (dP P) ≤ 1000000 := by
  match P, h with
  | none, _ => exact ⟨rfl, by decide, by decide⟩
  | some (x, y), ⟨h1, h2⟩ =>
    refine ⟨?_, ?_, ?_⟩
    · have e1 := okq h1 (by decide)
      have e2 := okq h2 (by decide)
      simp [okD, okAll, dP, e1, e2]
    · simp [PyData.depth, PyData.depthAll, dP, dq]
    · simp [wt, wtAll, dP, dq]
theorem sq_lt {a m : Nat} (h : a * a < 2 ^ (m + m)) : a < 2 ^ m := by
  rcases Nat.lt_or_ge a (2 ^ m) with z | z
  · exact z
  · have := Nat.mul_le_mul z z
    rw [← Nat.pow_add] at this
    omega
theorem sq_RB {a r : Rat} {m : Nat} (h : RB (m + m) a) (e : r * r = a) : RB m r := by
  subst e
  obtain ⟨h1, h2⟩ := h
  obtain ⟨e1, e2⟩ := sq_num r
  rw [e1, Int.natAbs_mul] at h1
  rw [e2, Int.natAbs_mul] at h2
  exact ⟨sq_lt h1, sq_lt h2⟩
/-- what a concord of a point tells -/
theorem Con.tells {m n : Int} {x y : Rat} {c : C3} (h : Con m n (some (x, y)) (some c)) : c.1 * c.1 = x ∧ c.2.1 * c.2.1 = x + (m : Rat) ∧ c.2.2 * c.2.2 = x + (n : Rat) := by
  rcases h with ⟨_, h⟩ | ⟨x0, r0, r1, r2, h0, h1, h2, h3⟩
  · cases h
  · match r0, r1, r2, h0, h1, h2, h3 with
    | some a, some b, some d, h0, h1, h2, h3 =>
      obtain rfl := Option.some.inj h3
      exact ⟨h0.2, h1.2, h2.2⟩
theorem Con.bd {m n : Int} {P : Pt} {c : C3} (h : Con m n P (some c)) (hB : HB 500 P) (hm : B 8 m) (hn : B 8 n) : CB 255 c := by
  match P, h, hB with
  | none, h, _ => cases h
  | some (x, y), h, hB =>
    obtain ⟨e1, e2, e3⟩ := Con.tells h
    replace hB : RB 500 x := hB
    exact ⟨sq_RB (m := 255) (hB.up (by decide)) e1, sq_RB (m := 255) ((RB.add hB (RB.int (m := 8) hm (by decide))).up (by decide)) e2, sq_RB (m := 255) ((RB.add hB (RB.int (m := 8) hn (by decide))).up (by decide)) e3⟩
section
variable {P : Program} {w : World} {K : PySem.W.Frag} {mg : Str → Option Value} {base : Heap}
/-- what the law asks of a concord -/
structure Tell (m n : Int) (c : C3) : Prop where
  d : c.2.1 * c.2.1 - c.2.2 * c.2.2 = ((m - n : Int) : Rat)
  s : c.2.1 * c.2.1 + c.2.2 * c.2.2 - ((m + n : Int) : Rat) = 2 * (c.1 * c.1)
theorem tell_of {m n : Int} {c : C3} {x : Rat} (h : c.1 * c.1 = x ∧ c.2.1 * c.2.1 = x + (m : Rat) ∧ c.2.2 * c.2.2 = x + (n : Rat)) : Tell m n c := by
  obtain ⟨h1, h2, h3⟩ := h
  constructor
  · rw [h2, h3]
    push_cast
    grind
  · rw [h2, h3, h1]
    push_cast
    grind
theorem part_is {m n : Int} {c : C3} (h : Tell m n c) (ne : m - n ≠ 0) : ((c.2.1 + c.2.2) * (c.2.1 - c.2.2)) * Rat.divInt (m + n) (m - n) = ((m + n : Int) : Rat) := by
  have h1 := h.d
  have k0 : ((m - n : Int) : Rat) ≠ 0 := fun z => ne (by exact_mod_cast z)
  rw [Rat.divInt_eq_div]
  have e : (c.2.1 + c.2.2) * (c.2.1 - c.2.2) = ((m - n : Int) : Rat) := by grind
  rw [e]
  generalize ((m - n : Int) : Rat) = d at k0 ⊢
  generalize ((m + n : Int) : Rat) = s
  grind
def sp_law_angle_right (K : PySem.W.Frag) : Sp := fun vs H Q _ => ∃ (m n : Int) (p : Addr) (c : C3), vs = [.int m, .int n, .ref p] ∧ B 8 m ∧ B 8 n ∧ m ≠ n ∧ TrT K H p c ∧ CB 255 c ∧ Tell m n c ∧ ∀ H', Same H H' → Q (.bl true) H'
abbrev s__law_angle_right : Stmt := topS 39
theorem sc__law_angle_right : FnScope ["m", "n", "concord", "t", "u", "v", "a", "b", "c", "part", "square"] ["m", "n", "concord"] (defScope s__law_angle_right) := ⟨rfl, rfl, rfl, by decide +kernel, rfl, by decide +kernel, by decide +kernel⟩
theorem k_law_angle_right (T : Tx K mg) (D : Df K mg "_law_angle_right" s__law_angle_right ["m", "n", "concord"]) (c_law_by : Kl P w K mg base 3 "_law_by" (sp_law_by K)) (c_law_less : Kl P w K mg base 3 "_law_less" (sp_law_less K)) (c_law_plus : Kl P w K mg base 3 "_law_plus" (sp_law_plus K)) (c_law_cut : Kl P w K mg base 2 "_law_cut" (sp_law_cut K)) (c_angled_of : Kl P w K mg base 3 "angled_of" (sp_angled_of K)) : Kg P w K mg base 4 "_law_angle_right" (sp_law_angle_right K) := by
  have nd := sc__law_angle_right.nd
  refine Kg.by_body D sc__law_angle_right (fun vs H Q E h => ?_) (fun f cdv A outer s H vs Q E hgd hr h => ?_)
  · obtain ⟨_, _, _, _, rfl, _⟩ := h
    rfl
  · obtain ⟨m, n, p, c, rfl, hm, hn, ne, hp, hB, ht, q⟩ := h
    have hu1 := hu_of hr
    refine ⟨_, (pss_cons (ps_asg (pv 2) (pg_tup rfl (pgs_cons (pg_name (i := 3) nd rfl (by first | exact Or.inl rfl | exact Or.inr rfl)) (pgs_cons (pg_name (i := 4) nd rfl (by first | exact Or.inl rfl | exact Or.inr rfl)) (pgs_cons (pg_name (i := 5) nd rfl (by first | exact Or.inl rfl | exact Or.inr rfl)) pgs_nil)))))
      (pss_cons (ps_par3 (i := 6) (j := 7) (l := 8) (by rfl) nd rfl rfl rfl (by decide) (by decide) (by decide) rfl rfl rfl (pa_cons (pe_k c_law_plus  hr (by decide) (by rfl) (pa_cons (pv 4) (pa_cons (pv 5) pa_nil))) (pa_cons (pe_k c_law_less  hr (by decide) (by rfl) (pa_cons (pv 4) (pa_cons (pv 5) pa_nil))) (pa_cons (pe_k c_law_plus  hr (by decide) (by rfl) (pa_cons (pv 3) (pa_cons (pv 3) pa_nil))) pa_nil))) (by rfl))
      (pss_cons (ps_if (PW.pt (pw_or (pt_cmpR op_lt (pv 0) (pv 1) (nomark _)) (pw_or (pt_cmpR op_gt (pe_op op_mulW (pv 0) (pv 1)) pe_int (nomark _)) (pw_or1 (pt_cmpR op_lt (pe_ix ix_tup (pv 7) pe_int (fun _ _ => rfl)) pe_int (nomark _)))))) (pss_one (ps_ret pe_bl)) pss_nil)
      (pss_cons (ps_if (pt_cmpR op_ne (pe_callB (call_reprD hgd hr.units) (by rfl) T.repr (by decide +kernel) (pa_cons (pe_k c_angled_of  hr (by decide) (by rfl) (pa_cons (pv 2) pa_nil)) pa_nil)) (pe_callB (call_reprD hgd hr.units) (by rfl) T.repr (by decide +kernel) (pa_cons (pe_tup (pa_cons (pv 6) (pa_cons (pv 7) (pa_cons (pv 8) pa_nil)))) pa_nil)) (nomark _)) (pss_one (ps_ret pe_bl)) pss_nil)
      (pss_cons (ps_set (i := 9) nd rfl (by first | exact Or.inl rfl | exact Or.inr rfl) (pe_k c_law_by  hr (by decide) (by rfl) (pa_cons (pe_k c_law_by  hr (by decide) (by rfl) (pa_cons (pv 6) (pa_cons (pv 7) pa_nil))) (pa_cons (pe_k c_law_cut  hr (by decide) (by rfl) (pa_cons (pe_op op_add (pv 0) (pv 1)) (pa_cons (pe_op op_sub (pv 0) (pv 1)) pa_nil))) pa_nil))))
      (pss_cons (ps_set (i := 10) nd rfl (by first | exact Or.inl rfl | exact Or.inr rfl) (pe_k c_law_less  hr (by decide) (by rfl) (pa_cons (pe_k c_law_plus  hr (by decide) (by rfl) (pa_cons (pe_k c_law_by  hr (by decide) (by rfl) (pa_cons (pv 6) (pa_cons (pv 6) pa_nil))) (pa_cons (pe_k c_law_by  hr (by decide) (by rfl) (pa_cons (pv 7) (pa_cons (pv 7) pa_nil))) pa_nil))) (pa_cons (pe_k c_law_plus  hr (by decide) (by rfl) (pa_cons (pv 9) (pa_cons (pv 9) pa_nil))) pa_nil))))
      (pss_one (ps_ret (pe_and (pe_cmpR (op_eqD hr.units) (pv 10) (pe_k c_law_by  hr (by decide) (by rfl) (pa_cons (pv 8) (pa_cons (pv 8) pa_nil))) (nomark _)) (pe_one (pe_cmpR (op_eqD hr.units) (pe_k c_law_by  hr (by decide) (by rfl) (pa_cons (pv 6) (pa_cons (pv 7) pa_nil))) (pe_tup (pa_cons (pe_op op_sub (pv 0) (pv 1)) (pa_cons pe_int pa_nil))) (nomark _)))))))))))), ?_⟩
    have hp' := hp
    obtain ⟨pt, pu, pv, h0, h1, h2, h3⟩ := hp'
    obtain ⟨t, u, v⟩ := c
    obtain ⟨bt, bu, bv⟩ := hB
    replace h1 : SqT K H pt (fq t) := h1
    replace h2 : SqT K H pu (fq u) := h2
    replace h3 : SqT K H pv (fq v) := h3
    replace bt : RB 255 t := bt
    replace bu : RB 255 u := bu
    replace bv : RB 255 v := bv
    have hd : u * u - v * v = ((m - n : Int) : Rat) := ht.d
    have hs : u * u + v * v - ((m + n : Int) : Rat) = 2 * (t * t) := ht.s
    refine ⟨_, rfl, p, _, rfl, h0, rfl, _, _, rfl, _, _, rfl, _, _, rfl, rfl, ?_⟩
    first | refine sigN [some (.int (m)), some (.int (n)), some (.ref p), some (.ref pt), some (.ref pu), some (.ref pv), none, none, none, none, none] (by rfl) ?_ | refine sig [some (.int (m)), some (.int (n)), some (.ref p), some (.ref pt), some (.ref pu), some (.ref pv), none, none, none, none, none] (by rfl) ?_
    have E0 : FrE K H [(pt, t, 255), (pu, u, 255), (pv, v, 255)] := FrE.add (FrE.add (FrE.add FrE.nil h3 bv) h2 bu) h1 bt
    refine ⟨_, rfl, _, rfl, ?_⟩
    refine ⟨pu, pv, _, _, rfl, E0.get (by walk_at "mm"), E0.get (by walk_at "mm"), (E0.rb (p := pu) (by walk_at "mm")).up (by decide), (E0.rb (p := pv) (by walk_at "mm")).up (by decide), trivial, fun pa npa => ?_⟩
    obtain ⟨H1, eH_, s1, E1⟩ := stepE E0 npa (RB.add (E0.rb (p := pu) (by walk_at "mm")) (E0.rb (p := pv) (by walk_at "mm")))
    rw [eH_]
    clear eH_
    refine ⟨_, rfl, _, rfl, ?_⟩
    refine ⟨pu, pv, _, _, rfl, E1.get (by walk_at "mm"), E1.get (by walk_at "mm"), (E1.rb (p := pu) (by walk_at "mm")).up (by decide), (E1.rb (p := pv) (by walk_at "mm")).up (by decide), trivial, fun pb npb => ?_⟩
    obtain ⟨H2, eH_, s2, E2⟩ := stepE E1 npb (RB.sub (E1.rb (p := pu) (by walk_at "mm")) (E1.rb (p := pv) (by walk_at "mm")))
    rw [eH_]
    clear eH_
    refine ⟨_, rfl, _, rfl, ?_⟩
    refine ⟨pt, pt, _, _, rfl, E2.get (by walk_at "mm"), E2.get (by walk_at "mm"), (E2.rb (p := pt) (by walk_at "mm")).up (by decide), (E2.rb (p := pt) (by walk_at "mm")).up (by decide), trivial, fun pc npc => ?_⟩
    obtain ⟨H3, eH_, s3, E3⟩ := stepE E2 npc (RB.add (E2.rb (p := pt) (by walk_at "mm")) (E2.rb (p := pt) (by walk_at "mm")))
    rw [eH_]
    clear eH_
    refine ⟨_, _, _, rfl, ?_⟩
    first | refine sigN [some (.int (m)), some (.int (n)), some (.ref p), some (.ref pt), some (.ref pu), some (.ref pv), some (.ref pa), some (.ref pb), some (.ref pc), none, none] (by rfl) ?_ | refine sig [some (.int (m)), some (.int (n)), some (.ref p), some (.ref pt), some (.ref pu), some (.ref pv), some (.ref pa), some (.ref pb), some (.ref pc), none, none] (by rfl) ?_
    have s03 := s1.trans (s2.trans s3)
    refine ⟨_, rfl, _, rfl, _, _, rfl, rfl, _, rfl, ?_⟩
    by_cases c1 : m < n
    · refine iteY (decide_eq_true c1) ?_
      exact q _ s03
    refine iteN (by simpa using c1) ?_
    refine ⟨_, rfl, _, rfl, _, _, rfl, rfl, hm.mulW hn (by decide), _, _, rfl, rfl, _, rfl, ?_⟩
    by_cases c2 : 0 < m * n
    · refine iteY (decide_eq_true c2) ?_
      exact q _ s03
    refine iteN (by simpa using c2) ?_
    have gb := E3.get (p := pb) (by walk_at "mm")
    refine ⟨_, rfl, pb, _, 0, .int (u - v).num, rfl, rfl, gb, rfl, _, _, rfl, rfl, _, rfl, ?_⟩
    by_cases c3 : (u - v).num < 1
    · refine iteY (decide_eq_true c3) ?_
      exact q _ s03
    refine iteN (by simpa using c3) ?_
    refine ⟨_, rfl, p, (t, u, v), rfl, hp.same s03, bt.up (by decide), bu.up (by decide), bv.up (by decide), fun z H4 s4 hz => ?_⟩
    replace hz : TrT K H4 z (u + v, u - v, 2 * t) := hz
    have cB : CB 1800 (u + v, u - v, 2 * t) := ⟨(RB.add bu bv).up (by decide), (RB.sub bu bv).up (by decide), (RB.mul rb_two bt).up (by decide)⟩
    obtain ⟨k1, k2, k3⟩ := C_ok cB
    refine ⟨.ref z, dC (u + v, u - v, 2 * t), rfl, dp_C hz, k1, k2, k3, ?_⟩
    refine ⟨_, rfl, _, rfl, _, rfl, (by show 3 ≤ sizeLine; decide), fun r nr => ?_⟩
    have s5 := Same.new (H := H4) (p := r) (o := .tup [.ref pa, .ref pb, .ref pc]) nr
    have gr : upd H4 r (.tup [.ref pa, .ref pb, .ref pc]) r = some (.tup [.ref pa, .ref pb, .ref pc]) := upd_same
    generalize upd H4 r (.tup [.ref pa, .ref pb, .ref pc]) = H5 at s5 gr ⊢
    have E4 := E3.same (s4.trans s5)
    have hr5 : TrT K H5 r (u + v, u - v, 2 * t) := ⟨pa, pb, pc, tup_of gr, E4.get (p := pa) (by walk_at "mm"), E4.get (p := pb) (by walk_at "mm"), sq_eq (E4.get (p := pc) (by walk_at "mm")) (by show t + t = 2 * t; grind)⟩
    refine ⟨.ref r, dC (u + v, u - v, 2 * t), rfl, dp_C hr5, k1, k2, k3, rfl, _, rfl, ?_⟩
    generalize (dC (u + v, u - v, 2 * t)).shown = zz
    refine iteNS rfl ?_
    clear hz hr5
    have s05 := s03.trans (s4.trans s5)
    refine ⟨_, rfl, _, rfl, ?_⟩
    refine ⟨pa, pb, _, _, rfl, E4.get (by walk_at "mm"), E4.get (by walk_at "mm"), (E4.rb (p := pa) (by walk_at "mm")).up (by decide), (E4.rb (p := pb) (by walk_at "mm")).up (by decide), trivial, fun ab nab => ?_⟩
    obtain ⟨H6, eH_, s6, E5⟩ := stepE E4 nab (RB.mul (E4.rb (p := pa) (by walk_at "mm")) (E4.rb (p := pb) (by walk_at "mm")))
    rw [eH_]
    clear eH_
    have nz : m - n ≠ 0 := by omega
    have sB : B 9 (m + n) := (hm.add hn).up (by decide)
    have dB : B 9 (m - n) := (hm.sub hn).up (by decide)
    refine ⟨_, rfl, _, rfl, _, _, rfl, rfl, _, rfl, _, rfl, _, _, rfl, rfl, m + n, m - n, rfl, nz, sB.up (by decide), dB.up (by decide), fun cc ncc => ?_⟩
    obtain ⟨H7, eH_, s7, E6⟩ := stepE E5 ncc (RB.of (m := 9) nz sB dB)
    rw [eH_]
    clear eH_
    refine ⟨ab, cc, _, _, rfl, E6.get (by walk_at "mm"), E6.get (by walk_at "mm"), (E6.rb (p := ab) (by walk_at "mm")).up (by decide), (E6.rb (p := cc) (by walk_at "mm")).up (by decide), trivial, fun part npart => ?_⟩
    obtain ⟨H8, eH_, s8, E7⟩ := stepE E6 npart (RB.mul (E6.rb (p := ab) (by walk_at "mm")) (E6.rb (p := cc) (by walk_at "mm")))
    rw [eH_]
    clear eH_
    have hpart : (u + v) * (u - v) * Rat.divInt (m + n) (m - n) = ((m + n : Int) : Rat) := part_is (c := (t, u, v)) ht nz
    have E8 := E7.re hpart (RB.int (m := 9) sB (by decide))
    first | refine sigN [some (.int (m)), some (.int (n)), some (.ref p), some (.ref pt), some (.ref pu), some (.ref pv), some (.ref pa), some (.ref pb), some (.ref pc), some (.ref part), none] (by rfl) ?_ | refine sig [some (.int (m)), some (.int (n)), some (.ref p), some (.ref pt), some (.ref pu), some (.ref pv), some (.ref pa), some (.ref pb), some (.ref pc), some (.ref part), none] (by rfl) ?_
    refine ⟨_, rfl, _, rfl, ?_⟩
    refine ⟨pa, pa, _, _, rfl, E8.get (by walk_at "mm"), E8.get (by walk_at "mm"), (E8.rb (p := pa) (by walk_at "mm")).up (by decide), (E8.rb (p := pa) (by walk_at "mm")).up (by decide), trivial, fun x1 nx1 => ?_⟩
    obtain ⟨H9, eH_, s9, E9⟩ := stepE E8 nx1 (RB.mul (E8.rb (p := pa) (by walk_at "mm")) (E8.rb (p := pa) (by walk_at "mm")))
    rw [eH_]
    clear eH_
    refine ⟨_, rfl, _, rfl, ?_⟩
    refine ⟨pb, pb, _, _, rfl, E9.get (by walk_at "mm"), E9.get (by walk_at "mm"), (E9.rb (p := pb) (by walk_at "mm")).up (by decide), (E9.rb (p := pb) (by walk_at "mm")).up (by decide), trivial, fun x2 nx2 => ?_⟩
    obtain ⟨Ha, eH_, sa, E10⟩ := stepE E9 nx2 (RB.mul (E9.rb (p := pb) (by walk_at "mm")) (E9.rb (p := pb) (by walk_at "mm")))
    rw [eH_]
    clear eH_
    refine ⟨x1, x2, _, _, rfl, E10.get (by walk_at "mm"), E10.get (by walk_at "mm"), (E10.rb (p := x1) (by walk_at "mm")).up (by decide), (E10.rb (p := x2) (by walk_at "mm")).up (by decide), trivial, fun x3 nx3 => ?_⟩
    obtain ⟨Hb, eH_, sb, E11⟩ := stepE E10 nx3 (RB.add (E10.rb (p := x1) (by walk_at "mm")) (E10.rb (p := x2) (by walk_at "mm")))
    rw [eH_]
    clear eH_
    refine ⟨_, rfl, _, rfl, ?_⟩
    refine ⟨part, part, _, _, rfl, E11.get (by walk_at "mm"), E11.get (by walk_at "mm"), (E11.rb (p := part) (by walk_at "mm")).up (by decide), (E11.rb (p := part) (by walk_at "mm")).up (by decide), trivial, fun x4 nx4 => ?_⟩
    obtain ⟨Hc, eH_, sc, E12⟩ := stepE E11 nx4 (RB.add (E11.rb (p := part) (by walk_at "mm")) (E11.rb (p := part) (by walk_at "mm")))
    rw [eH_]
    clear eH_
    refine ⟨x3, x4, _, _, rfl, E12.get (by walk_at "mm"), E12.get (by walk_at "mm"), (E12.rb (p := x3) (by walk_at "mm")).up (by decide), (E12.rb (p := x4) (by walk_at "mm")).up (by decide), trivial, fun sq nsq => ?_⟩
    obtain ⟨Hd, eH_, sd, E13⟩ := stepE E12 nsq (RB.sub (E12.rb (p := x3) (by walk_at "mm")) (E12.rb (p := x4) (by walk_at "mm")))
    rw [eH_]
    clear eH_
    first | refine sigN [some (.int (m)), some (.int (n)), some (.ref p), some (.ref pt), some (.ref pu), some (.ref pv), some (.ref pa), some (.ref pb), some (.ref pc), some (.ref part), some (.ref sq)] (by rfl) ?_ | refine sig [some (.int (m)), some (.int (n)), some (.ref p), some (.ref pt), some (.ref pu), some (.ref pv), some (.ref pa), some (.ref pb), some (.ref pc), some (.ref part), some (.ref sq)] (by rfl) ?_
    refine ⟨_, rfl, _, rfl, _, rfl, ?_⟩
    refine ⟨pc, pc, _, _, rfl, E13.get (by walk_at "mm"), E13.get (by walk_at "mm"), (E13.rb (p := pc) (by walk_at "mm")).up (by decide), (E13.rb (p := pc) (by walk_at "mm")).up (by decide), trivial, fun x5 nx5 => ?_⟩
    obtain ⟨He, eH_, se, E14⟩ := stepE E13 nx5 (RB.mul (E13.rb (p := pc) (by walk_at "mm")) (E13.rb (p := pc) (by walk_at "mm")))
    rw [eH_]
    clear eH_
    have g1 := E14.get (p := sq) (by walk_at "mm")
    have g2 := E14.get (p := x5) (by walk_at "mm")
    have s9e := s6.trans (s7.trans (s8.trans (s9.trans (sa.trans (sb.trans (sc.trans (sd.trans se)))))))
    have e1 : (u + v) * (u + v) + (u - v) * (u - v) - (((m + n : Int) : Rat) + ((m + n : Int) : Rat)) = (t + t) * (t + t) := by grind
    refine ⟨dq ((u + v) * (u + v) + (u - v) * (u - v) - (((m + n : Int) : Rat) + ((m + n : Int) : Rat))), dq ((t + t) * (t + t)), dp_q g1, dp_q g2, rfl, rfl, ?_⟩
    rw [eqv_q, decide_eq_true e1]
    refine ⟨_, rfl, iteY rfl ?_⟩
    refine ⟨_, rfl, _, rfl, ?_⟩
    refine ⟨pa, pb, _, _, rfl, E14.get (by walk_at "mm"), E14.get (by walk_at "mm"), (E14.rb (p := pa) (by walk_at "mm")).up (by decide), (E14.rb (p := pb) (by walk_at "mm")).up (by decide), trivial, fun x6 nx6 => ?_⟩
    obtain ⟨Hf, eH_, sf, E15⟩ := stepE E14 nx6 (RB.mul (E14.rb (p := pa) (by walk_at "mm")) (E14.rb (p := pb) (by walk_at "mm")))
    rw [eH_]
    clear eH_
    refine ⟨_, rfl, _, rfl, _, _, rfl, rfl, (by show 2 ≤ sizeLine; decide), fun z2 nz2 => ?_⟩
    have sg := Same.new (H := Hf) (p := z2) (o := .tup [.int (m - n), .int 1]) nz2
    have gz2 : upd Hf z2 (.tup [.int (m - n), .int 1]) z2 = some (.tup [.int (m - n), .int 1]) := upd_same
    generalize upd Hf z2 (.tup [.int (m - n), .int 1]) = Hg at sg gz2 ⊢
    rw [← fq_int] at gz2
    have g3 := Same.tup sg (E15.get (p := x6) (by walk_at "mm"))
    refine ⟨dq ((u + v) * (u - v)), dq ((m - n : Int) : Rat), dp_q g3, dp_q (tup_of gz2), rfl, rfl, ?_⟩
    have e2 : (u + v) * (u - v) = ((m - n : Int) : Rat) := by grind
    rw [eqv_q, decide_eq_true e2]
    exact q _ (s05.trans (s9e.trans (sf.trans sg)))
def sp_law_point_right (K : PySem.W.Frag) : Sp := fun vs H Q _ => ∃ (m n : Int) (p : Addr) (S : Pt), vs = [.int m, .int n, .ref p] ∧ B 8 m ∧ B 8 n ∧ m ≠ n ∧ PtT K H p S ∧ HB 500 S ∧ ∀ H', Same H H' → Q (.bl true) H'
abbrev s__law_point_right : Stmt := topS 40
theorem sc__law_point_right : FnScope ["m", "n", "point", "due", "t", "u", "v"] ["m", "n", "point"] (defScope s__law_point_right) := ⟨rfl, rfl, rfl, by decide +kernel, rfl, by decide +kernel, by decide +kernel⟩
theorem k_law_point_right (T : Tx K mg) (D : Df K mg "_law_point_right" s__law_point_right ["m", "n", "point"]) (c_law_concord : Kl P w K mg base 4 "_law_concord" (sp_law_concord K)) (c_law_angle_right : Kg P w K mg base 4 "_law_angle_right" (sp_law_angle_right K)) (c_concord_of : Kl P w K mg base 5 "concord_of" (sp_concord_of K)) (c_concord_point : Kl P w K mg base 4 "concord_point" (sp_concord_point K)) (c_law_by : Kl P w K mg base 3 "_law_by" (sp_law_by K)) : Kg P w K mg base 6 "_law_point_right" (sp_law_point_right K) := by
  have nd := sc__law_point_right.nd
  refine Kg.by_body D sc__law_point_right (fun vs H Q E h => ?_) (fun f cdv A outer s H vs Q E hgd hr h => ?_)
  · obtain ⟨_, _, _, _, rfl, _⟩ := h
    rfl
  · obtain ⟨m, n, p, S, rfl, hm, hn, ne, hp, hB, q⟩ := h
    have hu1 := hu_of hr
    refine ⟨_, (pss_cons (ps_set (i := 3) nd rfl (by first | exact Or.inl rfl | exact Or.inr rfl) (pe_k c_law_concord  hr (by decide) (by rfl) (pa_cons (pv 0) (pa_cons (pv 1) (pa_cons (pv 2) pa_nil)))))
      (pss_cons (ps_if (pt_cmpR op_ne (pe_callB (call_reprD hgd hr.units) (by rfl) T.repr (by decide +kernel) (pa_cons (pe_k c_concord_of  hr (by decide) (by rfl) (pa_cons (pv 0) (pa_cons (pv 1) (pa_cons (pv 2) pa_nil)))) pa_nil)) (pe_callB (call_reprD hgd hr.units) (by rfl) T.repr (by decide +kernel) (pa_cons (pv 3) pa_nil)) (nomark _)) (pss_one (ps_ret pe_bl)) pss_nil)
      (pss_cons (ps_if (pt_cmpR op_isN (pv 3) pe_non (nomark _)) (pss_one (ps_ret pe_bl)) pss_nil)
      (pss_cons (ps_asg (pv 3) (pg_tup rfl (pgs_cons (pg_name (i := 4) nd rfl (by first | exact Or.inl rfl | exact Or.inr rfl)) (pgs_cons (pg_name (i := 5) nd rfl (by first | exact Or.inl rfl | exact Or.inr rfl)) (pgs_cons (pg_name (i := 6) nd rfl (by first | exact Or.inl rfl | exact Or.inr rfl)) pgs_nil)))))
      (pss_cons (ps_if (pt_cmpR op_ne (pe_callB (call_reprD hgd hr.units) (by rfl) T.repr (by decide +kernel) (pa_cons (pe_k c_concord_point  hr (by decide) (by rfl) (pa_cons (pv 0) (pa_cons (pv 1) (pa_cons (pv 3) pa_nil)))) pa_nil)) (pe_callB (call_reprD hgd hr.units) (by rfl) T.repr (by decide +kernel) (pa_cons (pe_tup (pa_cons (pe_k c_law_by  hr (by decide) (by rfl) (pa_cons (pv 4) (pa_cons (pv 4) pa_nil))) (pa_cons (pe_k c_law_by  hr (by decide) (by rfl) (pa_cons (pv 4) (pa_cons (pe_k c_law_by  hr (by decide) (by rfl) (pa_cons (pv 5) (pa_cons (pv 6) pa_nil))) pa_nil))) pa_nil))) pa_nil)) (nomark _)) (pss_one (ps_ret pe_bl)) pss_nil)
      (pss_one (ps_ret (pe_g c_law_angle_right hgd hr (by decide) (by rfl) (pa_cons (pv 0) (pa_cons (pv 1) (pa_cons (pv 3) pa_nil))))))))))), ?_⟩
    refine ⟨_, rfl, _, rfl, _, rfl, m, n, p, S, rfl, hm.up (by decide), hn.up (by decide), hp, HB.up (h := 500) (k := 3800) hB (by decide), fun o v H1 ho s1 hv => ?_⟩
    first | refine sigN [some (.int (m)), some (.int (n)), some (.ref p), some v, none, none, none] (by rfl) ?_ | refine sig [some (.int (m)), some (.int (n)), some (.ref p), some v, none, none, none] (by rfl) ?_
    refine ⟨_, rfl, _, rfl, _, rfl, m, n, p, S, rfl, hm.up (by decide), hn.up (by decide), hp.same s1, HB.up (h := 500) (k := 3800) hB (by decide), fun o2 v2 H2 ho2 s2 hv2 => ?_⟩
    obtain rfl : o2 = o := ho2.uniq ho
    have hbd : ∀ d, o2 = some d → CB 1800 d := fun d e => by
      subst e
      obtain ⟨h1, h2, h3⟩ := Con.bd ho hB hm hn
      exact ⟨h1.up (by decide), h2.up (by decide), h3.up (by decide)⟩
    obtain ⟨k1, k2, k3⟩ := O_ok hbd
    refine ⟨v2, dO o2, rfl, dp_O hv2, k1, k2, k3, ?_⟩
    refine ⟨_, rfl, v, dO o2, rfl, dp_O (hv.same s2), k1, k2, k3, rfl, _, rfl, ?_⟩
    generalize (dO o2).shown = zz
    refine iteNS rfl ?_
    have s02 := s1.trans s2
    cases o2 with
    | none =>
      rw [show v = .non from hv]
      refine ⟨_, rfl, rfl, _, rfl, iteT ?_⟩
      exact q _ s02
    | some c =>
      obtain ⟨pc, rfl, hc⟩ := hv
      refine ⟨_, rfl, rfl, _, rfl, iteF ?_⟩
      have hc2 := hc.same s2
      obtain ⟨b1, b2, b3⟩ := Con.bd ho hB hm hn
      have hc' := hc2
      obtain ⟨t, u, w⟩ := c
      obtain ⟨pt, pu, pw, g0, g1, g2, g3⟩ := hc'
      replace g1 : SqT K H2 pt (fq t) := g1
      replace g2 : SqT K H2 pu (fq u) := g2
      replace g3 : SqT K H2 pw (fq w) := g3
      replace b1 : RB 255 t := b1
      replace b2 : RB 255 u := b2
      replace b3 : RB 255 w := b3
      refine ⟨_, rfl, pc, _, rfl, g0, rfl, _, _, rfl, _, _, rfl, _, _, rfl, rfl, ?_⟩
      first | refine sigN [some (.int (m)), some (.int (n)), some (.ref p), some (.ref pc), some (.ref pt), some (.ref pu), some (.ref pw)] (by rfl) ?_ | refine sig [some (.int (m)), some (.int (n)), some (.ref p), some (.ref pc), some (.ref pt), some (.ref pu), some (.ref pw)] (by rfl) ?_
      refine ⟨_, rfl, _, rfl, _, rfl, m, n, pc, (t, u, w), rfl, hc2, b1.up (by decide), b2.up (by decide), b3.up (by decide), fun z H3 s3 hz => ?_⟩
      replace hz : PtT K H3 z (some (t * t, t * (u * w))) := hz
      have pB : PB 1800 (some (t * t, t * (u * w))) := ⟨(b1.mul b1).up (by decide), (b1.mul (b2.mul b3)).up (by decide)⟩
      obtain ⟨j1, j2, j3⟩ := P_ok pB
      refine ⟨.ref z, dP (some (t * t, t * (u * w))), rfl, dp_pt hz, j1, j2, j3, ?_⟩
      have E0 : FrE K H3 [(pt, t, 255), (pu, u, 255), (pw, w, 255)] := FrE.add (FrE.add (FrE.add FrE.nil (Same.tup s3 g3) b3) (Same.tup s3 g2) b2) (Same.tup s3 g1) b1
      refine ⟨_, rfl, _, rfl, ?_⟩
      refine ⟨pt, pt, _, _, rfl, E0.get (by walk_at "mm"), E0.get (by walk_at "mm"), (E0.rb (p := pt) (by walk_at "mm")).up (by decide), (E0.rb (p := pt) (by walk_at "mm")).up (by decide), trivial, fun x1 nx1 => ?_⟩
      obtain ⟨H4, eH_, s4, E1⟩ := stepE E0 nx1 (RB.mul (E0.rb (p := pt) (by walk_at "mm")) (E0.rb (p := pt) (by walk_at "mm")))
      rw [eH_]
      clear eH_
      refine ⟨_, rfl, _, rfl, _, rfl, ?_⟩
      refine ⟨pu, pw, _, _, rfl, E1.get (by walk_at "mm"), E1.get (by walk_at "mm"), (E1.rb (p := pu) (by walk_at "mm")).up (by decide), (E1.rb (p := pw) (by walk_at "mm")).up (by decide), trivial, fun x2 nx2 => ?_⟩
      obtain ⟨H5, eH_, s5, E2⟩ := stepE E1 nx2 (RB.mul (E1.rb (p := pu) (by walk_at "mm")) (E1.rb (p := pw) (by walk_at "mm")))
      rw [eH_]
      clear eH_
      refine ⟨pt, x2, _, _, rfl, E2.get (by walk_at "mm"), E2.get (by walk_at "mm"), (E2.rb (p := pt) (by walk_at "mm")).up (by decide), (E2.rb (p := x2) (by walk_at "mm")).up (by decide), trivial, fun x3 nx3 => ?_⟩
      obtain ⟨H6, eH_, s6, E3⟩ := stepE E2 nx3 (RB.mul (E2.rb (p := pt) (by walk_at "mm")) (E2.rb (p := x2) (by walk_at "mm")))
      rw [eH_]
      clear eH_
      refine ⟨(by show 2 ≤ sizeLine; decide), fun r nr => ?_⟩
      have s7 := Same.new (H := H6) (p := r) (o := .tup [.ref x1, .ref x3]) nr
      have gr : upd H6 r (.tup [.ref x1, .ref x3]) r = some (.tup [.ref x1, .ref x3]) := upd_same
      generalize upd H6 r (.tup [.ref x1, .ref x3]) = H7 at s7 gr ⊢
      have E4 := E3.same s7
      have hr7 : PtT K H7 r (some (t * t, t * (u * w))) := ⟨x1, x3, tup_of gr, E4.get (p := x1) (by walk_at "mm"), E4.get (p := x3) (by walk_at "mm")⟩
      refine ⟨.ref r, dP (some (t * t, t * (u * w))), rfl, dp_pt hr7, j1, j2, j3, rfl, _, rfl, ?_⟩
      generalize (dP (some (t * t, t * (u * w)))).shown = zz
      refine iteNS rfl ?_
      have s27 := s3.trans (s4.trans (s5.trans (s6.trans s7)))
      have htell : Tell m n (t, u, w) := by
        match S, ho with
        | none, ho => cases ho
        | some (x, y), ho => exact tell_of (Con.tells ho)
      refine ⟨_, rfl, _, rfl, _, rfl, m, n, pc, (t, u, w), rfl, hm, hn, ne, hc2.same s27, ⟨b1, b2, b3⟩, htell, fun H8 s8 => ?_⟩
      exact q _ (s02.trans (s27.trans s8))
end
end K53
set_option Elab.async false
set_option linter.all false
set_option maxRecDepth 100000
set_option maxHeartbeats 4000000
namespace K53
open PySem PySem.Spec PyProof.Rows L2 Gd QM EcM EcP
local macro_rules | `(tactic| walk_at "mm") => `(tactic| (repeat (first | exact List.mem_cons_self | apply List.mem_cons_of_mem)))
/-! ### doubles have concords -/
theorem root_ex {q s Y : Rat} (h : q * (4 * (Y * Y)) = s * s) (Y0 : Y ≠ 0) : ∃ r : Rat, r * r = q := by
  refine ⟨s / (2 * Y), ?_⟩
  have h2 : (2 * Y : Rat) ≠ 0 := by grind
  have h3 : s / (2 * Y) * (2 * Y) = s := Rat.div_mul_cancel h2
  generalize s / (2 * Y) = r at h3 ⊢
  have h4 : (q - r * r) * (Y * Y) = 0 := by grind
  rcases Rat.mul_eq_zero.mp h4 with z | z
  · grind
  · rcases Rat.mul_eq_zero.mp z with z | z <;> exact absurd z Y0
theorem dsq {m n X Y k : Rat} (hc : Y * Y = X * X * X + (m + n) * X * X + (m * n) * X) (hk : k * (2 * Y) = 3 * (X * X) + 2 * (m + n) * X + m * n) :
    (k * k - (m + n) - X - X) * (4 * (Y * Y)) = (X * X - m * n) * (X * X - m * n) ∧ (k * k - (m + n) - X - X + m) * (4 * (Y * Y)) = (X * X + 2 * m * X + m * n) * (X * X + 2 * m * X + m * n) ∧ (k * k - (m + n) - X - X + n) * (4 * (Y * Y)) = (X * X + 2 * n * X + m * n) * (X * X + 2 * n * X + m * n) := by
  have e : k * k * (4 * (Y * Y)) = (3 * (X * X) + 2 * (m + n) * X + m * n) * (3 * (X * X) + 2 * (m + n) * X + m * n) := by
    rw [← hk]
    grind
  refine ⟨?_, ?_, ?_⟩ <;> grind
/-- the curve of a concord -/
def ec (m n : Int) : Ec := ⟨m + n, m * n, 0⟩
theorem dbl_con {m n : Int} {R : Pt} (oR : On (ec m n) R) {x y : Rat} (h : sum (ec m n) R R = some (x, y)) (x0 : x ≠ 0) {o : Option C3} (ho : Con m n (some (x, y)) o) : o ≠ none := by
  match R, oR, h with
  | none, _, h => cases h
  | some (X, Y), oR, h =>
    replace oR : Y * Y = (ec m n).f X := oR
    by_cases hop : X = X ∧ -Y = Y
    · have : sum (ec m n) (some (X, Y)) (some (X, Y)) = none := if_pos hop
      rw [this] at h
      cases h
    · have e1 : sum (ec m n) (some (X, Y)) (some (X, Y)) = some (px (ec m n) (slo (ec m n) X Y X Y) X X, -(Y + slo (ec m n) X Y X Y * (px (ec m n) (slo (ec m n) X Y X Y) X X - X))) := if_neg hop
      rw [e1] at h
      obtain ⟨h1, h2⟩ := Prod.mk.inj (Option.some.inj h)
      rcases slope_is oR oR hop with ⟨hx, _⟩ | ⟨_, _, Y0, hk⟩
      · exact absurd rfl hx
      · have hc : Y * Y = X * X * X + ((m : Rat) + n) * X * X + ((m : Rat) * n) * X := by
          rw [oR]
          unfold Ec.f ec
          push_cast
          grind
        have hk' : slo (ec m n) X Y X Y * (2 * Y) = 3 * (X * X) + 2 * ((m : Rat) + n) * X + (m : Rat) * n := by
          rw [hk]
          unfold ec
          push_cast
          rfl
        obtain ⟨d1, d2, d3⟩ := dsq hc hk'
        have ex : slo (ec m n) X Y X Y * slo (ec m n) X Y X Y - ((m : Rat) + n) - X - X = x := by
          rw [← h1]
          unfold px ec
          push_cast
          rfl
        rw [ex] at d1 d2 d3
        obtain ⟨r0, q0⟩ := root_ex d1 Y0
        obtain ⟨r1, q1⟩ := root_ex d2 Y0
        obtain ⟨r2, q2⟩ := root_ex d3 Y0
        rcases ho with ⟨z, _⟩ | ⟨_, s0, s1, s2, t0, t1, t2, rfl⟩
        · exact absurd z x0
        · match s0, s1, s2, t0, t1, t2 with
          | none, _, _, t0, _, _ => exact absurd q0 (t0 r0)
          | some _, none, _, _, t1, _ => exact absurd q1 (t1 r1)
          | some _, some _, none, _, _, t2 => exact absurd q2 (t2 r2)
          | some a, some b, some c, _, _, _ => exact fun z => by cases z
/-- the points of order two -/
theorem on_tor (m n : Int) : On (ec m n) (some (0, 0)) ∧ On (ec m n) (some (((-m : Int) : Rat), 0)) ∧ On (ec m n) (some (((-n : Int) : Rat), 0)) := by
  refine ⟨?_, ?_, ?_⟩
  · show (0 : Rat) * 0 = (ec m n).f 0
    unfold Ec.f ec
    push_cast
    grind
  · show (0 : Rat) * 0 = (ec m n).f _
    unfold Ec.f ec
    push_cast
    grind
  · show (0 : Rat) * 0 = (ec m n).f _
    unfold Ec.f ec
    push_cast
    grind
theorem ec_bd {m n : Int} {c : C3} (h : Drawn m n c) : (ec m n).Bd 15 := ⟨by decide, B.up h.s (by decide), B.up h.p (by decide), Z.lit (x := 0) (by decide)⟩
theorem on_pt {m n : Int} {c : C3} (h : Drawn m n c) : On (ec m n) (some (c.1 * c.1, c.1 * (c.2.1 * c.2.2))) := by
  show c.1 * (c.2.1 * c.2.2) * (c.1 * (c.2.1 * c.2.2)) = (ec m n).f (c.1 * c.1)
  have e1 := h.eu
  have e2 := h.ev
  have e3 : c.1 * (c.2.1 * c.2.2) * (c.1 * (c.2.1 * c.2.2)) = c.1 * c.1 * ((c.2.1 * c.2.1) * (c.2.2 * c.2.2)) := by grind
  rw [e3, e1, e2]
  unfold Ec.f ec
  push_cast
  grind
theorem con_pt {m n : Int} {c : C3} (h : Drawn m n c) (y : Rat) : Con m n (some (c.1 * c.1, y)) (some c) := by
  refine .inr ⟨?_, some c.1, some c.2.1, some c.2.2, ⟨h.tn, rfl⟩, ⟨h.un, h.eu⟩, ⟨h.vn, h.ev⟩, rfl⟩
  intro z
  rcases Rat.mul_eq_zero.mp z with z | z <;> exact h.t0 z
theorem con_0 {o : Option C3} (h : Con (-6) 6 (some (Rat.divInt 25 4, Rat.divInt 35 8)) o) : o = some (Rat.divInt 5 2, Rat.divInt 1 2, Rat.divInt 7 2) := by
  refine h.uniq (.inr ⟨by decide +kernel, some (Rat.divInt 5 2), some (Rat.divInt 1 2), some (Rat.divInt 7 2), ⟨by decide +kernel, by decide +kernel⟩, ⟨by decide +kernel, by decide +kernel⟩, ⟨by decide +kernel, by decide +kernel⟩, rfl⟩)
/-- what is told at the end -/
def dT (c : C3) : PyData := .list [dC c, .none, .none]
theorem eqv_T (c : C3) : PyData.eqv (dT c) (dT c) = true := by
  simp [dT, dC, PyData.eqv, PyData.eqvAll, eqv_q]
theorem sh_T (c : C3) : SeqAt.shaped (dT c) = true := rfl
theorem pt_but {K : PySem.W.Frag} {H H' : Hp} {m cl p : Addr} {n : Nat} {S : Pt} (b : But m H H') (M : MAt H m cl n) (h : PtT K H p S) : PtT K H' p S := by
  match S, h with
  | none, h => exact b.seqT M h
  | some (x, y), ⟨a, c, h1, h2, h3⟩ => exact ⟨a, c, b.seqT M h1, b.seqT M h2, b.seqT M h3⟩
theorem dpI {K : PySem.W.Frag} {H : Hp} {t : Addr} {x y z : Int} (h : SqT K H t [.int x, .int y, .int z]) : Dp K H (.ref t) (.tuple [.int x, .int y, .int z]) := .tup h (.cons (.int _) (.cons (.int _) (.cons (.int _) .nil)))
theorem I_ok {x y : Int} (hx : B 20 x) (hy : B 20 y) : okD (.tuple [.int x, .int y, .int 0]) = true ∧ (PyData.tuple [.int x, .int y, .int 0]).depth ≤ 40 ∧ wt (.tuple [.int x, .int y, .int 0]) ≤ 1000000 := by
  refine ⟨?_, ?_, ?_⟩
  · have e1 := hx.log (by decide)
    have e2 := hy.log (by decide)
    have e3 : (0 : Int).natAbs.log2 < 1920 := by decide
    simp [okD, okAll, e1, e2]
  · simp [PyData.depth, PyData.depthAll]
  · simp [wt, wtAll]
section
variable {P : Program} {w : World} {K : PySem.W.Frag} {mg : Str → Option Value} {base : Heap}
def sp_law (K : PySem.W.Frag) : Sp := fun vs H Q _ => ∃ (a : Addr) (ns : List Int), vs = [.ref a] ∧ SqL K H a (ns.map V.int) ∧ ns.length ≤ 63 ∧ ∀ H', Q (.bl true) H'
abbrev s_law : Stmt := topS 41
theorem sc_law : FnScope ["script", "turn", "draws", "m", "n", "concord", "five", "t", "point", "k", "more", "two", "told"] ["script"] (defScope s_law) := ⟨rfl, rfl, rfl, by decide +kernel, rfl, by decide +kernel, by decide +kernel⟩
theorem k_law {fl : Addr} {fdl : FuncData} (T : Tx K mg) (Fl : Fun K "law" "law" s_law fl fdl) (c_law_begun : Kl P w K mg base 1 "_law_begun" (sp_law_begun K)) (c_law_drawn : Kl P w K mg base 3 "_law_drawn" (sp_law_drawn K)) (c_concord_of : Kl P w K mg base 5 "concord_of" (sp_concord_of K)) (c_law_five : Kl P w K mg base 1 "_law_five" (sp_law_five K)) (c_law_by : Kl P w K mg base 3 "_law_by" (sp_law_by K)) (c_law_times_of : Kl P w K mg base 7 "_law_times_of" (sp_law_times_of K)) (c_law_of : Kl P w K mg base 2 "_law_of" (sp_law_of K)) (c_law_on : Kl P w K mg base 4 "_law_on" (sp_law_on K)) (c_concord_curve : Kl P w K mg base 1 "concord_curve" (sp_concord_curve K)) (c_concord_point : Kl P w K mg base 4 "concord_point" (sp_concord_point K)) (c_law_concord : Kl P w K mg base 4 "_law_concord" (sp_law_concord K)) (c_law_point_right : Kg P w K mg base 6 "_law_point_right" (sp_law_point_right K)) (c_law_sum : Kl P w K mg base 5 "_law_sum" (sp_law_sum K)) : FnG P w K mg base 8 fl fdl ["script"] (sp_law K) := by
  have nd := sc_law.nd
  refine FnG.by_body Fl sc_law (fun vs H Q E h => ?_) (fun cdv A outer s H vs Q E hgd hr h => ?_)
  · obtain ⟨_, _, rfl, _⟩ := h
    rfl
  · obtain ⟨a, ns, rfl, hx, hl, q⟩ := h
    have hu1 := hu_of hr
    refine ⟨_, (pss_cons (ps_for PassesOwn.never rfl (pi_range1 (by rfl) T.range (pa_cons (pe_op op_add pe_int (pe_callTy call_int1 (by rfl) T.int (by decide +kernel) (pa_cons (pe_cmpR op_gt (pe_callB call_len_seq (by rfl) T.len (by decide +kernel) (pa_cons (pv 0) pa_nil)) pe_int (nomark _)) pa_nil))) pa_nil)) (pg_name (i := 1) nd rfl (by first | exact Or.inl rfl | exact Or.inr rfl)) (pss_cons (ps_set (i := 2) nd rfl (by first | exact Or.inl rfl | exact Or.inr rfl) (pe_k c_law_begun  hr (by decide) (by rfl) (pa_cons (pv 0) (pa_cons (pv 1) pa_nil))))
      (pss_cons (ps_asg (pe_k c_law_drawn  hr (by decide) (by rfl) (pa_cons (pv 2) pa_nil)) (pg_tup rfl (pgs_cons (pg_name (i := 3) nd rfl (by first | exact Or.inl rfl | exact Or.inr rfl)) (pgs_cons (pg_name (i := 4) nd rfl (by first | exact Or.inl rfl | exact Or.inr rfl)) (pgs_cons (pg_name (i := 5) nd rfl (by first | exact Or.inl rfl | exact Or.inr rfl)) pgs_nil)))))
      (pss_cons (ps_par (i := 6) (j := 7) (by rfl) nd rfl rfl (by decide) rfl rfl (pa_cons (pe_k c_law_five  hr (by decide) (by rfl) (pa_cons (pe_tup (pa_cons (pe_op op_add (pv 3) (pv 4)) (pa_cons (pe_op op_mulW (pv 3) (pv 4)) (pa_cons pe_int pa_nil)))) pa_nil)) (pa_cons (pe_ix ix_tup (pv 5) pe_int (fun _ _ => rfl)) pa_nil)) (by rfl))
      (pss_cons (ps_set (i := 8) nd rfl (by first | exact Or.inl rfl | exact Or.inr rfl) (pe_tup (pa_cons (pe_k c_law_by  hr (by decide) (by rfl) (pa_cons (pv 7) (pa_cons (pv 7) pa_nil))) (pa_cons (pe_k c_law_by  hr (by decide) (by rfl) (pa_cons (pv 7) (pa_cons (pe_k c_law_by  hr (by decide) (by rfl) (pa_cons (pe_ix ix_tup (pv 5) pe_int (fun _ _ => rfl)) (pa_cons (pe_ix ix_tup (pv 5) pe_int (fun _ _ => rfl)) pa_nil))) pa_nil))) pa_nil))))
      (pss_cons (ps_if (PW.pt (pw_or (pt_cmpR op_ne (pe_callB (call_reprD hgd hr.units) (by rfl) T.repr (by decide +kernel) (pa_cons (pe_k c_concord_curve  hr (by decide) (by rfl) (pa_cons (pv 3) (pa_cons (pv 4) pa_nil))) pa_nil)) (pe_callB (call_reprD hgd hr.units) (by rfl) T.repr (by decide +kernel) (pa_cons (pe_tup (pa_cons (pe_op op_add (pv 3) (pv 4)) (pa_cons (pe_op op_mulW (pv 3) (pv 4)) (pa_cons pe_int pa_nil)))) pa_nil)) (nomark _)) (pw_or1 (pt_not (pt_val (pe_k c_law_on  hr (by decide) (by rfl) (pa_cons (pv 6) (pa_cons (pv 8) pa_nil)))))))) (pss_one (ps_ret pe_bl)) pss_nil)
      (pss_cons (ps_if (PW.pt (pw_or (pt_cmpR op_ne (pe_callB (call_reprD hgd hr.units) (by rfl) T.repr (by decide +kernel) (pa_cons (pe_k c_concord_point  hr (by decide) (by rfl) (pa_cons (pv 3) (pa_cons (pv 4) (pa_cons (pv 5) pa_nil)))) pa_nil)) (pe_callB (call_reprD hgd hr.units) (by rfl) T.repr (by decide +kernel) (pa_cons (pv 8) pa_nil)) (nomark _)) (pw_or1 (pt_cmpR op_ne (pe_callB (call_reprD hgd hr.units) (by rfl) T.repr (by decide +kernel) (pa_cons (pe_k c_concord_of  hr (by decide) (by rfl) (pa_cons (pv 3) (pa_cons (pv 4) (pa_cons (pv 8) pa_nil)))) pa_nil)) (pe_callB (call_reprD hgd hr.units) (by rfl) T.repr (by decide +kernel) (pa_cons (pv 5) pa_nil)) (nomark _))))) (pss_one (ps_ret pe_bl)) pss_nil)
      (pss_one (ps_for PassesOwn.never rfl (pi_range2 (by rfl) T.range (pa_cons (pe_un un_neg pe_int) (pa_cons pe_int pa_nil))) (pg_name (i := 9) nd rfl (by first | exact Or.inl rfl | exact Or.inr rfl)) (pss_cons (ps_set (i := 10) nd rfl (by first | exact Or.inl rfl | exact Or.inr rfl) (pe_k c_law_times_of  hr (by decide) (by rfl) (pa_cons (pv 6) (pa_cons (pv 9) (pa_cons (pv 8) pa_nil)))))
      (C8.pss_cut (ps_if (PW.pt (pw_and (pt_cmpR op_ne (pv 9) pe_int (nomark _)) (pw_and (pt_cmpR op_eq (pe_op op_mod (pe_callTy call_intI (by rfl) T.int (by decide +kernel) (pa_cons (pv 9) pa_nil)) pe_int) pe_int (nomark _)) (pw_and (pt_cmpR (op_neD hr.units) (pv 10) (pe_tup pa_nil) (nomark _)) (pw_and (pt_cmpR op_ne (pe_ix ix_tup (pe_ix ix_tup (pv 10) pe_int (fun _ _ => rfl)) pe_int (fun _ _ => rfl)) pe_int (nomark _)) (pw_and1 (pt_cmpR op_isN (pe_k c_law_concord  hr (by decide) (by rfl) (pa_cons (pv 3) (pa_cons (pv 4) (pa_cons (pv 10) pa_nil)))) pe_non (nomark _)))))))) (pss_one (ps_ret pe_bl)) pss_nil)
      (pss_cons (ps_set (i := 11) nd rfl (by first | exact Or.inl rfl | exact Or.inr rfl) (pe_k c_law_of  hr (by decide) (by rfl) (pa_cons (pv 2) (pa_cons (pe_lst (pa_cons (pe_tup pa_nil) (pa_cons (pe_tup (pa_cons (pe_tup (pa_cons pe_int (pa_cons pe_int pa_nil))) (pa_cons (pe_tup (pa_cons pe_int (pa_cons pe_int pa_nil))) pa_nil))) (pa_cons (pe_tup (pa_cons (pe_tup (pa_cons (pe_un un_neg (pv 3)) (pa_cons pe_int pa_nil))) (pa_cons (pe_tup (pa_cons pe_int (pa_cons pe_int pa_nil))) pa_nil))) (pa_cons (pe_tup (pa_cons (pe_tup (pa_cons (pe_un un_neg (pv 4)) (pa_cons pe_int pa_nil))) (pa_cons (pe_tup (pa_cons pe_int (pa_cons pe_int pa_nil))) pa_nil))) pa_nil))))) pa_nil))))
      (pss_one (ps_if (PW.pt (pw_or (pt_not (pt_val (pe_g c_law_point_right hgd hr (by decide) (by rfl) (pa_cons (pv 3) (pa_cons (pv 4) (pa_cons (pv 10) pa_nil)))))) (pw_or1 (pt_not (pt_val (pe_g c_law_point_right hgd hr (by decide) (by rfl) (pa_cons (pv 3) (pa_cons (pv 4) (pa_cons (pe_k c_law_sum  hr (by decide) (by rfl) (pa_cons (pv 6) (pa_cons (pv 10) (pa_cons (pv 11) pa_nil)))) pa_nil))))))))) (pss_one (ps_ret pe_bl)) pss_nil))))))))))))))
      (pss_cons (ps_set (i := 12) nd rfl (by first | exact Or.inl rfl | exact Or.inr rfl) (pe_lst (pa_cons (pe_k c_concord_of  hr (by decide) (by rfl) (pa_cons (pe_un un_neg pe_int) (pa_cons pe_int (pa_cons (pe_tup (pa_cons (pe_tup (pa_cons pe_int (pa_cons pe_int pa_nil))) (pa_cons (pe_tup (pa_cons pe_int (pa_cons pe_int pa_nil))) pa_nil))) pa_nil)))) (pa_cons (pe_k c_concord_of  hr (by decide) (by rfl) (pa_cons (pe_un un_neg pe_int) (pa_cons pe_int (pa_cons (pe_tup pa_nil) pa_nil)))) (pa_cons (pe_k c_concord_of  hr (by decide) (by rfl) (pa_cons (pe_un un_neg pe_int) (pa_cons pe_int (pa_cons (pe_tup (pa_cons (pe_tup (pa_cons pe_int (pa_cons pe_int pa_nil))) (pa_cons (pe_tup (pa_cons pe_int (pa_cons pe_int pa_nil))) pa_nil))) pa_nil)))) pa_nil)))))
      (pss_one (ps_ret (pe_cmpR (op_eqD hr.units) (pv 12) (pe_lst (pa_cons (pe_tup (pa_cons (pe_tup (pa_cons pe_int (pa_cons pe_int pa_nil))) (pa_cons (pe_tup (pa_cons pe_int (pa_cons pe_int pa_nil))) (pa_cons (pe_tup (pa_cons pe_int (pa_cons pe_int pa_nil))) pa_nil)))) (pa_cons pe_non (pa_cons pe_non pa_nil)))) (nomark _)))))), ?_⟩
    obtain ⟨j, hj, j0, j1⟩ : ∃ j : Int, (1 : Int) + (if decide ((2 : Int) < ((ns.map V.int).length : Int)) = true then 1 else 0) = j ∧ 0 ≤ j ∧ j ≤ 5 := ⟨_, rfl, by split <;> omega, by split <;> omega⟩
    refine ⟨_, rfl, a, _, rfl, .inl hx, _, _, rfl, rfl, .inr ⟨_, rfl, _, _, rfl, rfl, j, ?_, by omega, by omega, ?_⟩⟩
    · rw [← hj]
    refine for_range (lo := 0) (n := j.toNat) (fun i σ H2 => Same H H2 ∧ ∃ v1 v2 v3 v4 v5 v6 v7 v8 v9 v10 v11 : Option V, σ = [some (.ref a), v1, v2, v3, v4, v5, v6, v7, v8, v9, v10, v11, none]) ⟨Same.refl _, none, none, none, none, none, none, none, none, none, none, none, rfl⟩ ?_ ?_
    · rintro i σ H2 hi ⟨s2, v1, v2, v3, v4, v5, v6, v7, v8, v9, v10, v11, rfl⟩
      refine ⟨_, rfl, _, rfl, a, _, ns, rfl, s2.seq hx, hl, by omega, by omega, fun H3 dr cl s3 nm ncl hM => ?_⟩
      first | refine sigN [some (.ref a), some (.int (0 + (i : Int))), some (.ref dr), v3, v4, v5, v6, v7, v8, v9, v10, v11, none] (by rfl) ?_ | refine sig [some (.ref a), some (.int (0 + (i : Int))), some (.ref dr), v3, v4, v5, v6, v7, v8, v9, v10, v11, none] (by rfl) ?_
      refine ⟨_, rfl, dr, cl, 0, rfl, by decide, hM, fun H4 tt tc m n c b4 m4 ht htc hD => ?_⟩
      refine ⟨tt, _, rfl, ht, rfl, _, _, rfl, _, _, rfl, _, _, rfl, rfl, ?_⟩
      first | refine sigN [some (.ref a), some (.int (0 + (i : Int))), some (.ref dr), some (.int (m)), some (.int (n)), some (.ref tc), v6, v7, v8, v9, v10, v11, none] (by rfl) ?_ | refine sig [some (.ref a), some (.int (0 + (i : Int))), some (.ref dr), some (.int (m)), some (.int (n)), some (.ref tc), v6, v7, v8, v9, v10, v11, none] (by rfl) ?_
      have hg := ec_bd hD
      have hp0 := on_pt hD
      have hcon := con_pt hD (c.1 * (c.2.1 * c.2.2))
      refine ⟨_, rfl, _, rfl, _, _, rfl, rfl, _, rfl, _, rfl, _, _, rfl, rfl, hD.bM.mulW hD.bN (by decide), (by show 3 ≤ sizeLine; decide), fun z nz => ?_⟩
      have s5 := Same.new (H := H4) (p := z) (o := .tup [.int (m + n), .int (m * n), .int 0]) nz
      have gz : upd H4 z (.tup [.int (m + n), .int (m * n), .int 0]) z = some (.tup [.int (m + n), .int (m * n), .int 0]) := upd_same
      generalize upd H4 z (.tup [.int (m + n), .int (m * n), .int 0]) = H5 at s5 gz ⊢
      refine ⟨z, m + n, m * n, 0, rfl, tup_of gz, fun fv nfv => ?_⟩
      have s6 := Same.new (H := H5) (p := fv) (o := .tup [.int 0, .int (m + n), .int 0, .int (m * n), .int 0]) nfv
      have gf : upd H5 fv (.tup [.int 0, .int (m + n), .int 0, .int (m * n), .int 0]) fv = some (.tup [.int 0, .int (m + n), .int 0, .int (m * n), .int 0]) := upd_same
      generalize upd H5 fv (.tup [.int 0, .int (m + n), .int 0, .int (m * n), .int 0]) = H6 at s6 gf ⊢
      have htc6 := htc.same (s5.trans s6)
      obtain ⟨bM, bN⟩ : B 8 m ∧ B 8 n := ⟨hD.bM, hD.bN⟩
      have hne := hD.ne
      obtain ⟨b1, b2, b3⟩ := (⟨hD.b1, hD.b2, hD.b3⟩ : CB 4 c)
      obtain ⟨t, u, v⟩ := c
      have htc6' := htc6
      obtain ⟨pt, pu, pv, g0, g1, g2, g3⟩ := htc6'
      replace g1 : SqT K H6 pt (fq t) := g1
      replace g2 : SqT K H6 pu (fq u) := g2
      replace g3 : SqT K H6 pv (fq v) := g3
      replace b1 : RB 4 t := b1
      replace b2 : RB 4 u := b2
      replace b3 : RB 4 v := b3
      replace hp0 : On (ec m n) (some (t * t, t * (u * v))) := hp0
      replace hcon : Con m n (some (t * t, t * (u * v))) (some (t, u, v)) := hcon
      refine ⟨_, rfl, tc, _, 0, .ref pt, rfl, rfl, g0, rfl, _, _, rfl, ?_⟩
      first | refine sigN [some (.ref a), some (.int (0 + (i : Int))), some (.ref dr), some (.int (m)), some (.int (n)), some (.ref tc), some (.ref fv), some (.ref pt), v8, v9, v10, v11, none] (by rfl) ?_ | refine sig [some (.ref a), some (.int (0 + (i : Int))), some (.ref dr), some (.int (m)), some (.int (n)), some (.ref tc), some (.ref fv), some (.ref pt), v8, v9, v10, v11, none] (by rfl) ?_
      have E0 : FrE K H6 [(pt, t, 4), (pu, u, 4), (pv, v, 4)] := FrE.add (FrE.add (FrE.add FrE.nil g3 b3) g2 b2) g1 b1
      refine ⟨_, rfl, _, rfl, ?_⟩
      refine ⟨pt, pt, _, _, rfl, E0.get (by walk_at "mm"), E0.get (by walk_at "mm"), (E0.rb (p := pt) (by walk_at "mm")).up (by decide), (E0.rb (p := pt) (by walk_at "mm")).up (by decide), trivial, fun x1 nx1 => ?_⟩
      obtain ⟨H7, eH_, s7, E1⟩ := stepE E0 nx1 (RB.mul (E0.rb (p := pt) (by walk_at "mm")) (E0.rb (p := pt) (by walk_at "mm")))
      rw [eH_]
      clear eH_
      refine ⟨_, rfl, _, rfl, tc, _, 1, .ref pu, rfl, rfl, Same.tup s7 g0, rfl, _, rfl, tc, _, 2, .ref pv, rfl, rfl, Same.tup s7 g0, rfl, ?_⟩
      refine ⟨pu, pv, _, _, rfl, E1.get (by walk_at "mm"), E1.get (by walk_at "mm"), (E1.rb (p := pu) (by walk_at "mm")).up (by decide), (E1.rb (p := pv) (by walk_at "mm")).up (by decide), trivial, fun x2 nx2 => ?_⟩
      obtain ⟨H8, eH_, s8, E2⟩ := stepE E1 nx2 (RB.mul (E1.rb (p := pu) (by walk_at "mm")) (E1.rb (p := pv) (by walk_at "mm")))
      rw [eH_]
      clear eH_
      refine ⟨pt, x2, _, _, rfl, E2.get (by walk_at "mm"), E2.get (by walk_at "mm"), (E2.rb (p := pt) (by walk_at "mm")).up (by decide), (E2.rb (p := x2) (by walk_at "mm")).up (by decide), trivial, fun x3 nx3 => ?_⟩
      obtain ⟨H9, eH_, s9, E3⟩ := stepE E2 nx3 (RB.mul (E2.rb (p := pt) (by walk_at "mm")) (E2.rb (p := x2) (by walk_at "mm")))
      rw [eH_]
      clear eH_
      refine ⟨(by show 2 ≤ sizeLine; decide), fun po npo => ?_⟩
      have sa := Same.new (H := H9) (p := po) (o := .tup [.ref x1, .ref x3]) npo
      have gp : upd H9 po (.tup [.ref x1, .ref x3]) po = some (.tup [.ref x1, .ref x3]) := upd_same
      generalize upd H9 po (.tup [.ref x1, .ref x3]) = Ha at sa gp ⊢
      first | refine sigN [some (.ref a), some (.int (0 + (i : Int))), some (.ref dr), some (.int (m)), some (.int (n)), some (.ref tc), some (.ref fv), some (.ref pt), some (.ref po), v9, v10, v11, none] (by rfl) ?_ | refine sig [some (.ref a), some (.int (0 + (i : Int))), some (.ref dr), some (.int (m)), some (.int (n)), some (.ref tc), some (.ref fv), some (.ref pt), some (.ref po), v9, v10, v11, none] (by rfl) ?_
      have E4 := E3.same sa
      have hpo : PtT K Ha po (some (t * t, t * (u * v))) := ⟨x1, x3, tup_of gp, E4.get (p := x1) (by walk_at "mm"), E4.get (p := x3) (by walk_at "mm")⟩
      have s6a := s7.trans (s8.trans (s9.trans sa))
      have hfv : FivT K Ha fv (ec m n) := tup_of (s6a _ _ gf)
      have htca := htc6.same s6a
      have bA := b4.trans (But.of (s5.trans (s6.trans s6a)))
      have mA := m4.same (s5.trans (s6.trans s6a))
      clear E0 E1 E2 E3 E4 s7 s8 s9 sa s5 s6 gf gz g1 g2 g3 g0 htc htc6 ht
      obtain ⟨i1, i2, i3⟩ := I_ok (x := m + n) (y := m * n) (hD.s.up (by decide)) (hD.p.up (by decide))
      refine ⟨_, rfl, _, rfl, m, n, rfl, bM.up (by decide), bN.up (by decide), fun y ny => ?_⟩
      have sb := Same.new (H := Ha) (p := y) (o := .tup [.int (m + n), .int (m * n), .int 0]) ny
      have gy : upd Ha y (.tup [.int (m + n), .int (m * n), .int 0]) y = some (.tup [.int (m + n), .int (m * n), .int 0]) := upd_same
      generalize upd Ha y (.tup [.int (m + n), .int (m * n), .int 0]) = Hb at sb gy ⊢
      refine ⟨.ref y, .tuple [.int (m + n), .int (m * n), .int 0], rfl, dpI (tup_of gy), i1, i2, i3, ?_⟩
      refine ⟨_, rfl, _, rfl, _, _, rfl, rfl, _, rfl, _, rfl, _, _, rfl, rfl, bM.mulW bN (by decide), (by show 3 ≤ sizeLine; decide), fun y2 ny2 => ?_⟩
      have sc := Same.new (H := Hb) (p := y2) (o := .tup [.int (m + n), .int (m * n), .int 0]) ny2
      have gy2 : upd Hb y2 (.tup [.int (m + n), .int (m * n), .int 0]) y2 = some (.tup [.int (m + n), .int (m * n), .int 0]) := upd_same
      generalize upd Hb y2 (.tup [.int (m + n), .int (m * n), .int 0]) = Hc at sc gy2 ⊢
      refine ⟨.ref y2, .tuple [.int (m + n), .int (m * n), .int 0], rfl, dpI (tup_of gy2), i1, i2, i3, rfl, _, rfl, ?_⟩
      generalize (PyData.tuple [.int (m + n), .int (m * n), .int 0]).shown = zz
      refine iteNS rfl ?_
      have sac := sb.trans sc
      have hx8 : HB 8 (some (t * t, t * (u * v))) := (b1.mul b1 : RB (4 + 4) (t * t))
      refine ⟨_, rfl, _, rfl, fv, po, ec m n, some (t * t, t * (u * v)), rfl, hfv.same sac, hg, hpo.same sac, hp0, HB.up (h := 8) (k := 200) hx8 (by decide), fun Hd sd => ?_⟩
      refine ⟨_, rfl, iteF ?_⟩
      have sad := sac.trans sd
      have pB : PB 1800 (some (t * t, t * (u * v))) := ⟨(b1.mul b1).up (by decide), (b1.mul (b2.mul b3)).up (by decide)⟩
      obtain ⟨j1', j2', j3'⟩ := P_ok pB
      refine ⟨_, rfl, _, rfl, _, rfl, m, n, tc, (t, u, v), rfl, htca.same sad, b1.up (by decide), b2.up (by decide), b3.up (by decide), fun z1 He se hz1 => ?_⟩
      replace hz1 : PtT K He z1 (some (t * t, t * (u * v))) := hz1
      refine ⟨.ref z1, dP (some (t * t, t * (u * v))), rfl, dp_pt hz1, j1', j2', j3', ?_⟩
      have sae := sad.trans se
      refine ⟨_, rfl, .ref po, dP (some (t * t, t * (u * v))), rfl, dp_pt (hpo.same sae), j1', j2', j3', rfl, _, rfl, ?_⟩
      generalize (dP (some (t * t, t * (u * v)))).shown = zz
      refine iteNS rfl ?_
      refine ⟨_, rfl, _, rfl, _, rfl, m, n, po, some (t * t, t * (u * v)), rfl, bM.up (by decide), bN.up (by decide), hpo.same sae, HB.up (h := 8) (k := 3800) hx8 (by decide), fun o vv Hf ho sf hvv => ?_⟩
      obtain rfl : o = some (t, u, v) := ho.uniq hcon
      obtain ⟨k1, k2, k3⟩ := C_ok (c := (t, u, v)) ⟨b1.up (by decide), b2.up (by decide), b3.up (by decide)⟩
      refine ⟨vv, dC (t, u, v), rfl, dp_O hvv, k1, k2, k3, ?_⟩
      have saf := sae.trans sf
      refine ⟨_, rfl, .ref tc, dC (t, u, v), rfl, dp_C (htca.same saf), k1, k2, k3, rfl, _, rfl, ?_⟩
      generalize (dC (t, u, v)).shown = zz
      refine iteNS rfl ?_
      have bF := bA.trans (But.of saf)
      have mF := mA.same saf
      have hfvF := hfv.same saf
      have hpoF := hpo.same saf
      clear sb sc gy gy2 sd se hz1 hvv sf sac sad sae saf bA mA hpo hfv htca
      refine ⟨_, rfl, _, _, rfl, ⟨by decide, by decide, by decide, by decide⟩, for_range (lo := -3) (n := ((4 : Int) - -3).toNat) (fun i2 σ H7 => But dr Hf H7 ∧ MAt H7 dr cl (240 + i2) ∧ ∃ v9 v10 v11 : Option V, σ = [some (.ref a), some (.int (0 + (i : Int))), some (.ref dr), some (.int m), some (.int n), some (.ref tc), some (.ref fv), some (.ref pt), some (.ref po), v9, v10, v11, none]) ⟨But.refl _ _, mF, v9, v10, v11, rfl⟩ ?_ ?_⟩
      · rintro i2 σ H7 hi2 ⟨b7, m7, w9, w10, w11, rfl⟩
        have hi7 : i2 < 7 := hi2
        first | refine sigN [some (.ref a), some (.int (0 + (i : Int))), some (.ref dr), some (.int (m)), some (.int (n)), some (.ref tc), some (.ref fv), some (.ref pt), some (.ref po), some (.int (-3 + (i2 : Int))), w10, w11, none] (by rfl) ?_ | refine sig [some (.ref a), some (.int (0 + (i : Int))), some (.ref dr), some (.int (m)), some (.int (n)), some (.ref tc), some (.ref fv), some (.ref pt), some (.ref po), some (.int (-3 + (i2 : Int))), w10, w11, none] (by rfl) ?_
        obtain ⟨k, hk⟩ : ∃ k : Int, -3 + (i2 : Int) = k := ⟨_, rfl⟩
        rw [hk]
        have hfv7 : FivT K H7 fv (ec m n) := b7.seqT mF hfvF
        have hpo7 := pt_but b7 mF hpoF
        refine ⟨_, rfl, _, rfl, _, rfl, fv, po, ec m n, k, some (t * t, t * (u * v)), rfl, hfv7, hg, hpo7, hp0, hx8, by omega, by omega, fun pm H8 T s8 hT hTm => ?_⟩
        first | refine sigN [some (.ref a), some (.int (0 + (i : Int))), some (.ref dr), some (.int (m)), some (.int (n)), some (.ref tc), some (.ref fv), some (.ref pt), some (.ref po), some (.int (k)), some (.ref pm), w11, none] (by rfl) ?_ | refine sig [some (.ref a), some (.int (0 + (i : Int))), some (.ref dr), some (.int (m)), some (.int (n)), some (.ref tc), some (.ref fv), some (.ref pt), some (.ref po), some (.int (k)), some (.ref pm), w11, none] (by rfl) ?_
        obtain ⟨oT, bT, hdbl⟩ := hTm
        refine ⟨fun σ H9 => Same H8 H9 ∧ σ = [some (.ref a), some (.int (0 + (i : Int))), some (.ref dr), some (.int m), some (.int n), some (.ref tc), some (.ref fv), some (.ref pt), some (.ref po), some (.int k), some (.ref pm), w11, none], ?_, ?_⟩
        · refine ⟨_, rfl, rfl, _, rfl, ?_⟩
          rw [dec_int]
          by_cases c1 : k = 0
          · refine iteN (by simpa using c1) ?_
            exact ⟨Same.refl _, rfl⟩
          refine iteY (by simpa using c1) ?_
          refine ⟨_, rfl, _, rfl, _, _, rfl, rfl, (by show (0 : Int) < 2; decide), rfl, _, rfl, ?_⟩
          rw [dec_int]
          by_cases c2 : k % 2 = 0
          case neg =>
            refine iteN (by simpa using c2) ?_
            exact ⟨Same.refl _, rfl⟩
          refine iteY (by simpa using c2) ?_
          refine ⟨_, rfl, (by show 0 ≤ sizeLine; decide), fun z nz => ?_⟩
          have s9 := Same.new (H := H8) (p := z) (o := .tup []) nz
          have gz : upd H8 z (.tup []) z = some (.tup []) := upd_same
          generalize upd H8 z (.tup []) = H9 at s9 gz ⊢
          refine ⟨dP T, .tuple [], dp_pt (hT.same s9), dp0 (tup_of gz), sh_P T, rfl, _, rfl, ?_⟩
          rw [eqv_P0]
          obtain ⟨R, oR, eT⟩ := hdbl c2 c1
          cases T with
          | none =>
            refine iteN (by simp) ?_
            exact ⟨s9, rfl⟩
          | some T =>
            obtain ⟨x, y⟩ := T
            refine iteY (by simp) ?_
            have hT9 := hT.same s9
            have hT9' := hT9
            obtain ⟨qx, qy, f1, f2, f3⟩ := hT9'
            refine ⟨_, rfl, pm, _, 0, .ref qx, rfl, rfl, f1, rfl, qx, _, 0, .int x.num, rfl, rfl, f2, rfl, rfl, _, rfl, ?_⟩
            rw [dec_int]
            by_cases x0 : x = 0
            · refine iteN (by rw [x0]; decide) ?_
              exact ⟨s9, rfl⟩
            refine iteY (by simpa using num_ne x0) ?_
            refine ⟨_, rfl, _, rfl, _, rfl, m, n, pm, some (x, y), rfl, bM.up (by decide), bN.up (by decide), hT9, HB.up (h := 188) (k := 3800) bT (by decide), fun o vv Ha ho sa hvv => ?_⟩
            have ho0 : o ≠ none := dbl_con oR eT.symm x0 ho
            match o, hvv, ho0 with
            | none, _, z => exact absurd rfl z
            | some c', ⟨pc, e, _⟩, _ =>
              subst e
              refine ⟨rfl, _, rfl, iteF ?_⟩
              exact ⟨s9.trans sa, rfl⟩
        · rintro σ H9 ⟨s9, rfl⟩
          have m9 := (m7.same s8).same s9
          have hT9 := hT.same s9
          refine ⟨_, rfl, (by show 0 ≤ sizeLine; decide), fun t0 n0 => ?_⟩
          have ia := Same.new (H := H9) (p := t0) (o := .tup []) n0
          have e0 : upd H9 t0 (.tup []) t0 = some (.tup []) := upd_same
          generalize upd H9 t0 (.tup []) = Ia at ia e0 ⊢
          refine ⟨(by show 2 ≤ sizeLine; decide), fun a1 n1 => ?_⟩
          have ib := Same.new (H := Ia) (p := a1) (o := .tup [.int 0, .int 1]) n1
          have e1 : upd Ia a1 (.tup [.int 0, .int 1]) a1 = some (.tup [.int 0, .int 1]) := upd_same
          generalize upd Ia a1 (.tup [.int 0, .int 1]) = Ib at ib e1 ⊢
          refine ⟨(by show 2 ≤ sizeLine; decide), fun a2 n2 => ?_⟩
          have ic := Same.new (H := Ib) (p := a2) (o := .tup [.int 0, .int 1]) n2
          have e2 : upd Ib a2 (.tup [.int 0, .int 1]) a2 = some (.tup [.int 0, .int 1]) := upd_same
          generalize upd Ib a2 (.tup [.int 0, .int 1]) = Ic at ic e2 ⊢
          refine ⟨(by show 2 ≤ sizeLine; decide), fun a3 n3 => ?_⟩
          have id := Same.new (H := Ic) (p := a3) (o := .tup [.ref a1, .ref a2]) n3
          have e3 : upd Ic a3 (.tup [.ref a1, .ref a2]) a3 = some (.tup [.ref a1, .ref a2]) := upd_same
          generalize upd Ic a3 (.tup [.ref a1, .ref a2]) = Id at id e3 ⊢
          refine ⟨_, rfl, _, rfl, (by show 2 ≤ sizeLine; decide), fun a4 n4 => ?_⟩
          have ie := Same.new (H := Id) (p := a4) (o := .tup [.int (-m), .int 1]) n4
          have e4 : upd Id a4 (.tup [.int (-m), .int 1]) a4 = some (.tup [.int (-m), .int 1]) := upd_same
          generalize upd Id a4 (.tup [.int (-m), .int 1]) = Ie at ie e4 ⊢
          refine ⟨(by show 2 ≤ sizeLine; decide), fun a5 n5 => ?_⟩
          have ig := Same.new (H := Ie) (p := a5) (o := .tup [.int 0, .int 1]) n5
          have e5 : upd Ie a5 (.tup [.int 0, .int 1]) a5 = some (.tup [.int 0, .int 1]) := upd_same
          generalize upd Ie a5 (.tup [.int 0, .int 1]) = If at ig e5 ⊢
          refine ⟨(by show 2 ≤ sizeLine; decide), fun a6 n6 => ?_⟩
          have ih := Same.new (H := If) (p := a6) (o := .tup [.ref a4, .ref a5]) n6
          have e6 : upd If a6 (.tup [.ref a4, .ref a5]) a6 = some (.tup [.ref a4, .ref a5]) := upd_same
          generalize upd If a6 (.tup [.ref a4, .ref a5]) = Ig at ih e6 ⊢
          refine ⟨_, rfl, _, rfl, (by show 2 ≤ sizeLine; decide), fun a7 n7 => ?_⟩
          have ii := Same.new (H := Ig) (p := a7) (o := .tup [.int (-n), .int 1]) n7
          have e7 : upd Ig a7 (.tup [.int (-n), .int 1]) a7 = some (.tup [.int (-n), .int 1]) := upd_same
          generalize upd Ig a7 (.tup [.int (-n), .int 1]) = Ih at ii e7 ⊢
          refine ⟨(by show 2 ≤ sizeLine; decide), fun a8 n8 => ?_⟩
          have ij := Same.new (H := Ih) (p := a8) (o := .tup [.int 0, .int 1]) n8
          have e8 : upd Ih a8 (.tup [.int 0, .int 1]) a8 = some (.tup [.int 0, .int 1]) := upd_same
          generalize upd Ih a8 (.tup [.int 0, .int 1]) = Ii at ij e8 ⊢
          refine ⟨(by show 2 ≤ sizeLine; decide), fun a9 n9 => ?_⟩
          have ik := Same.new (H := Ii) (p := a9) (o := .tup [.ref a7, .ref a8]) n9
          have e9 : upd Ii a9 (.tup [.ref a7, .ref a8]) a9 = some (.tup [.ref a7, .ref a8]) := upd_same
          generalize upd Ii a9 (.tup [.ref a7, .ref a8]) = Ij at ik e9 ⊢
          refine ⟨(by show 4 ≤ sizeLine; decide), fun l nl => ?_⟩
          have il := Same.new (H := Ij) (p := l) (o := .lst [.ref t0, .ref a3, .ref a6, .ref a9]) nl
          have gl : upd Ij l (.lst [.ref t0, .ref a3, .ref a6, .ref a9]) l = some (.lst [.ref t0, .ref a3, .ref a6, .ref a9]) := upd_same
          generalize upd Ij l (.lst [.ref t0, .ref a3, .ref a6, .ref a9]) = Ik at il gl ⊢
          rw [← fq_int] at e4 e7
          have q1 := ib.trans (ic.trans (id.trans (ie.trans (ig.trans (ih.trans (ii.trans (ij.trans (ik.trans il))))))))
          have q4 := ie.trans (ig.trans (ih.trans (ii.trans (ij.trans (ik.trans il)))))
          have q7 := ii.trans (ij.trans (ik.trans il))
          obtain ⟨o1, o2, o3⟩ := on_tor m n
          have hall : ∀ x ∈ [V.ref t0, .ref a3, .ref a6, .ref a9], ∃ o R, x = .ref o ∧ PtT K Ik o R ∧ On (ec m n) R ∧ HB 9 R := by
            intro x hx
            simp only [List.mem_cons, List.not_mem_nil, or_false] at hx
            rcases hx with rfl | rfl | rfl | rfl
            · exact ⟨t0, none, rfl, tup_of (q1 _ _ e0), trivial, trivial⟩
            · exact ⟨a3, some (0, 0), rfl, ⟨a1, a2, tup_of (q4 _ _ e3), tup_of ((ic.trans (id.trans q4)) _ _ e1), tup_of ((id.trans q4) _ _ e2)⟩, o1, RB.zero.up (by decide)⟩
            · exact ⟨a6, some (_, 0), rfl, ⟨a4, a5, tup_of (q7 _ _ e6), tup_of ((ig.trans (ih.trans q7)) _ _ e4), tup_of ((ih.trans q7) _ _ e5)⟩, o2, RB.int (m := 9) ((bM.neg).up (by decide)) (by decide)⟩
            · exact ⟨a9, some (_, 0), rfl, ⟨a7, a8, tup_of (il _ _ e9), tup_of ((ij.trans (ik.trans il)) _ _ e7), tup_of ((ik.trans il) _ _ e8)⟩, o3, RB.int (m := 9) ((bN.neg).up (by decide)) (by decide)⟩
          have sI := ia.trans q1
          refine ⟨dr, cl, l, _, _, rfl, lst_of gl, by show 0 < 4; decide, by show 4 ≤ 1000; decide, by omega, m9.same sI, fun Ja xx bJ mJ hxx => ?_⟩
          obtain ⟨o, R, rfl, hR, oR, hR9⟩ := hall xx hxx
          have hR' := pt_but bJ (m9.same sI) hR
          have hT' := pt_but bJ (m9.same sI) (hT9.same sI)
          have hfv9 : FivT K Ja fv (ec m n) := bJ.seqT (m9.same sI) (Same.tup sI (Same.tup s9 (Same.tup s8 hfv7)))
          first | refine sigN [some (.ref a), some (.int (0 + (i : Int))), some (.ref dr), some (.int (m)), some (.int (n)), some (.ref tc), some (.ref fv), some (.ref pt), some (.ref po), some (.int (k)), some (.ref pm), some (.ref o), none] (by rfl) ?_ | refine sig [some (.ref a), some (.int (0 + (i : Int))), some (.ref dr), some (.int (m)), some (.int (n)), some (.ref tc), some (.ref fv), some (.ref pt), some (.ref po), some (.int (k)), some (.ref pm), some (.ref o), none] (by rfl) ?_
          refine ⟨_, rfl, _, rfl, _, rfl, m, n, pm, T, rfl, bM, bN, hne, hT', HB.up (h := 188) (k := 500) bT (by decide), fun Jb sJ => ⟨_, rfl, iteF ?_⟩⟩
          refine ⟨_, rfl, _, rfl, _, rfl, _, rfl, _, rfl, fv, pm, o, ec m n, T, R, rfl, hfv9.same sJ, hg, hT'.same sJ, hR'.same sJ, oT, oR, HB.up (h := 188) (k := 200) bT (by decide), HB.up (h := 9) (k := 200) hR9 (by decide), fun ps Jc sK hps => ?_⟩
          have hsB : HB 500 (sum (ec m n) T R) := HB.up (h := 430) (k := 500) (sum_HB (h := 188) (j := 9) (g := 15) oT oR bT hR9 hg) (by decide)
          refine ⟨m, n, ps, sum (ec m n) T R, rfl, bM, bN, hne, hps, hsB, fun Jd sL => ⟨_, rfl, iteF ?_⟩⟩
          have sM := sJ.trans (sK.trans sL)
          exact ⟨b7.trans ((But.of (s8.trans (s9.trans sI))).trans (bJ.trans (But.of sM))), (mJ.same sM).up (by omega), _, _, _, rfl⟩
      · rintro σ H7 ⟨b7, m7, w9, w10, w11, rfl⟩
        exact ⟨s2.trans (But.same s3 (bF.trans b7) nm), _, _, _, _, _, _, _, _, _, _, _, rfl⟩
    · rintro σ H2 ⟨s2, v1, v2, v3, v4, v5, v6, v7, v8, v9, v10, v11, rfl⟩
      refine ⟨_, rfl, (by show 2 ≤ sizeLine; decide), fun a1 n1 => ?_⟩
      have s3 := Same.new (H := H2) (p := a1) (o := .tup [.int 25, .int 4]) n1
      have e1 : upd H2 a1 (.tup [.int 25, .int 4]) a1 = some (.tup [.int 25, .int 4]) := upd_same
      generalize upd H2 a1 (.tup [.int 25, .int 4]) = H3 at s3 e1 ⊢
      refine ⟨(by show 2 ≤ sizeLine; decide), fun a2 n2 => ?_⟩
      have s4 := Same.new (H := H3) (p := a2) (o := .tup [.int 35, .int 8]) n2
      have e2 : upd H3 a2 (.tup [.int 35, .int 8]) a2 = some (.tup [.int 35, .int 8]) := upd_same
      generalize upd H3 a2 (.tup [.int 35, .int 8]) = H4 at s4 e2 ⊢
      refine ⟨(by show 2 ≤ sizeLine; decide), fun a3 n3 => ?_⟩
      have s5 := Same.new (H := H4) (p := a3) (o := .tup [.ref a1, .ref a2]) n3
      have e3 : upd H4 a3 (.tup [.ref a1, .ref a2]) a3 = some (.tup [.ref a1, .ref a2]) := upd_same
      generalize upd H4 a3 (.tup [.ref a1, .ref a2]) = H5 at s5 e3 ⊢
      have d1 : fq (Rat.divInt 25 4) = [.int 25, .int 4] := by decide +kernel
      have d2 : fq (Rat.divInt 35 8) = [.int 35, .int 8] := by decide +kernel
      rw [← d1] at e1
      rw [← d2] at e2
      have hpt : PtT K H5 a3 (some (Rat.divInt 25 4, Rat.divInt 35 8)) := ⟨a1, a2, tup_of e3, tup_of ((s4.trans s5) _ _ e1), tup_of (s5 _ _ e2)⟩
      have hb1 : HB 3800 (some (Rat.divInt 25 4, Rat.divInt 35 8)) := RB.up (m := 5) (⟨by decide +kernel, by decide +kernel⟩ : RB 5 (Rat.divInt 25 4)) (by decide)
      refine ⟨-6, 6, a3, _, rfl, B.lit (by decide), B.lit (by decide), hpt, hb1, fun o vv H6 ho s6 hvv => ?_⟩
      obtain rfl := con_0 ho
      refine ⟨_, rfl, (by show 0 ≤ sizeLine; decide), fun a4 n4 => ?_⟩
      have s7 := Same.new (H := H6) (p := a4) (o := .tup []) n4
      have e4 : upd H6 a4 (.tup []) a4 = some (.tup []) := upd_same
      generalize upd H6 a4 (.tup []) = H7 at s7 e4 ⊢
      refine ⟨-6, 6, a4, none, rfl, B.lit (by decide), B.lit (by decide), tup_of e4, trivial, fun o2 v2 H8 ho2 s8 hv2 => ?_⟩
      obtain rfl : o2 = none := ho2
      obtain rfl : v2 = .non := hv2
      refine ⟨_, rfl, (by show 2 ≤ sizeLine; decide), fun a5 n5 => ?_⟩
      have s9 := Same.new (H := H8) (p := a5) (o := .tup [.int 0, .int 1]) n5
      have e5 : upd H8 a5 (.tup [.int 0, .int 1]) a5 = some (.tup [.int 0, .int 1]) := upd_same
      generalize upd H8 a5 (.tup [.int 0, .int 1]) = H9 at s9 e5 ⊢
      refine ⟨(by show 2 ≤ sizeLine; decide), fun a6 n6 => ?_⟩
      have sa := Same.new (H := H9) (p := a6) (o := .tup [.int 0, .int 1]) n6
      have e6 : upd H9 a6 (.tup [.int 0, .int 1]) a6 = some (.tup [.int 0, .int 1]) := upd_same
      generalize upd H9 a6 (.tup [.int 0, .int 1]) = Ha at sa e6 ⊢
      refine ⟨(by show 2 ≤ sizeLine; decide), fun a7 n7 => ?_⟩
      have sb := Same.new (H := Ha) (p := a7) (o := .tup [.ref a5, .ref a6]) n7
      have e7 : upd Ha a7 (.tup [.ref a5, .ref a6]) a7 = some (.tup [.ref a5, .ref a6]) := upd_same
      generalize upd Ha a7 (.tup [.ref a5, .ref a6]) = Hb at sb e7 ⊢
      have hpt2 : PtT K Hb a7 (some (0, 0)) := ⟨a5, a6, tup_of e7, tup_of ((sa.trans sb) _ _ e5), tup_of (sb _ _ e6)⟩
      refine ⟨-6, 6, a7, some (0, 0), rfl, B.lit (by decide), B.lit (by decide), hpt2, RB.zero.up (by decide), fun o3 v3' Hc ho3 sc hv3 => ?_⟩
      obtain rfl : o3 = none := by
        rcases ho3 with ⟨_, h⟩ | ⟨h, _⟩
        · exact h
        · exact absurd rfl h
      obtain rfl : v3' = .non := hv3
      refine ⟨(by show 3 ≤ sizeLine; decide), fun tl ntl => ?_⟩
      have sd := Same.new (H := Hc) (p := tl) (o := .lst [vv, .non, .non]) ntl
      have el : upd Hc tl (.lst [vv, .non, .non]) tl = some (.lst [vv, .non, .non]) := upd_same
      generalize upd Hc tl (.lst [vv, .non, .non]) = Hd at sd el ⊢
      obtain ⟨c5, hc5⟩ : ∃ c : C3, (Rat.divInt 5 2, Rat.divInt 1 2, Rat.divInt 7 2) = c := ⟨_, rfl⟩
      have sall := s7.trans (s8.trans (s9.trans (sa.trans (sb.trans (sc.trans sd)))))
      have hv1 := hvv.same sall
      have d5 : fq (Rat.divInt 5 2) = [.int 5, .int 2] := by decide +kernel
      have d6 : fq (Rat.divInt 1 2) = [.int 1, .int 2] := by decide +kernel
      have d7 : fq (Rat.divInt 7 2) = [.int 7, .int 2] := by decide +kernel
      refine ⟨_, rfl, (by show 2 ≤ sizeLine; decide), fun p1 n1 => ?_⟩
      have i7 := Same.new (H := Hd) (p := p1) (o := .tup [.int 5, .int 2]) n1
      have g7 : upd Hd p1 (.tup [.int 5, .int 2]) p1 = some (.tup [.int 5, .int 2]) := upd_same
      generalize upd Hd p1 (.tup [.int 5, .int 2]) = I7 at i7 g7 ⊢
      refine ⟨(by show 2 ≤ sizeLine; decide), fun p2 n2 => ?_⟩
      have i8 := Same.new (H := I7) (p := p2) (o := .tup [.int 1, .int 2]) n2
      have g8 : upd I7 p2 (.tup [.int 1, .int 2]) p2 = some (.tup [.int 1, .int 2]) := upd_same
      generalize upd I7 p2 (.tup [.int 1, .int 2]) = I8 at i8 g8 ⊢
      refine ⟨(by show 2 ≤ sizeLine; decide), fun p3 n3 => ?_⟩
      have i9 := Same.new (H := I8) (p := p3) (o := .tup [.int 7, .int 2]) n3
      have g9 : upd I8 p3 (.tup [.int 7, .int 2]) p3 = some (.tup [.int 7, .int 2]) := upd_same
      generalize upd I8 p3 (.tup [.int 7, .int 2]) = I9 at i9 g9 ⊢
      refine ⟨(by show 3 ≤ sizeLine; decide), fun tc ntc => ?_⟩
      have i10 := Same.new (H := I9) (p := tc) (o := .tup [.ref p1, .ref p2, .ref p3]) ntc
      have g10 : upd I9 tc (.tup [.ref p1, .ref p2, .ref p3]) tc = some (.tup [.ref p1, .ref p2, .ref p3]) := upd_same
      generalize upd I9 tc (.tup [.ref p1, .ref p2, .ref p3]) = I10 at i10 g10 ⊢
      refine ⟨(by show 3 ≤ sizeLine; decide), fun l nl => ?_⟩
      have i11 := Same.new (H := I10) (p := l) (o := .lst [.ref tc, .non, .non]) nl
      have gl : upd I10 l (.lst [.ref tc, .non, .non]) l = some (.lst [.ref tc, .non, .non]) := upd_same
      generalize upd I10 l (.lst [.ref tc, .non, .non]) = I11 at i11 gl ⊢
      rw [← d5] at g7
      rw [← d6] at g8
      rw [← d7] at g9
      have sB := i7.trans (i8.trans (i9.trans (i10.trans i11)))
      have hw : TrT K I11 tc c5 := hc5 ▸ ⟨p1, p2, p3, tup_of (i11 _ _ g10), tup_of ((i8.trans (i9.trans (i10.trans i11))) _ _ g7), tup_of ((i9.trans (i10.trans i11)) _ _ g8), tup_of ((i10.trans i11) _ _ g9)⟩
      rw [hc5] at hv1
      refine ⟨dT c5, dT c5, .lst (lst_of (sB _ _ el)) (.cons (dp_O (hv1.same sB)) (.cons .non (.cons .non .nil))), .lst (lst_of gl) (.cons (dp_C hw) (.cons .non (.cons .non .nil))), sh_T c5, sh_T c5, ?_⟩
      rw [eqv_T]
      exact q _
end
end K53
set_option Elab.async false
set_option linter.all false
set_option maxRecDepth 100000
set_option maxHeartbeats 4000000
namespace K53
open PySem PySem.Spec PyProof.Rows L2 Gd
theorem all_mk {P : Program} {w : World} {K : PySem.W.Frag} {h : Heap} {mg : Str → Option Value} {fa : Addr} (X : K.In h) (G : h.Ns mainGlobals mg) (hfa : mg "law" = some (.ref fa))
    {f2 : Addr} {od2 an2 : Option Addr} {sl2 : Array (Option Value)} {oc2 kV2 dc2 pm2 cd2 ct2 : Value}
    {f3 : Addr} {od3 an3 : Option Addr} {sl3 : Array (Option Value)} {oc3 kV3 dc3 pm3 cd3 ct3 : Value}
    {f4 : Addr} {od4 an4 : Option Addr} {sl4 : Array (Option Value)} {oc4 kV4 dc4 pm4 cd4 ct4 : Value}
    {f5 : Addr} {od5 an5 : Option Addr} {sl5 : Array (Option Value)} {oc5 kV5 dc5 pm5 cd5 ct5 : Value}
    {f7 : Addr} {od7 an7 : Option Addr} {sl7 : Array (Option Value)} {oc7 kV7 dc7 pm7 cd7 ct7 : Value}
    {f8 : Addr} {od8 an8 : Option Addr} {sl8 : Array (Option Value)} {oc8 kV8 dc8 pm8 cd8 ct8 : Value}
    {f9 : Addr} {od9 an9 : Option Addr} {sl9 : Array (Option Value)} {oc9 kV9 dc9 pm9 cd9 ct9 : Value}
    {f10 : Addr} {od10 an10 : Option Addr} {sl10 : Array (Option Value)} {oc10 kV10 dc10 pm10 cd10 ct10 : Value}
    {f11 : Addr} {od11 an11 : Option Addr} {sl11 : Array (Option Value)} {oc11 kV11 dc11 pm11 cd11 ct11 : Value}
    {f13 : Addr} {od13 an13 : Option Addr} {sl13 : Array (Option Value)} {oc13 kV13 dc13 pm13 cd13 ct13 : Value}
    {f14 : Addr} {od14 an14 : Option Addr} {sl14 : Array (Option Value)} {oc14 kV14 dc14 pm14 cd14 ct14 : Value}
    {f15 : Addr} {od15 an15 : Option Addr} {sl15 : Array (Option Value)} {oc15 kV15 dc15 pm15 cd15 ct15 : Value}
    {f16 : Addr} {od16 an16 : Option Addr} {sl16 : Array (Option Value)} {oc16 kV16 dc16 pm16 cd16 ct16 : Value}
    {f18 : Addr} {od18 an18 : Option Addr} {sl18 : Array (Option Value)} {oc18 kV18 dc18 pm18 cd18 ct18 : Value}
    {f19 : Addr} {od19 an19 : Option Addr} {sl19 : Array (Option Value)} {oc19 kV19 dc19 pm19 cd19 ct19 : Value}
    {f20 : Addr} {od20 an20 : Option Addr} {sl20 : Array (Option Value)} {oc20 kV20 dc20 pm20 cd20 ct20 : Value}
    {f22 : Addr} {od22 an22 : Option Addr} {sl22 : Array (Option Value)} {oc22 kV22 dc22 pm22 cd22 ct22 : Value}
    {f23 : Addr} {od23 an23 : Option Addr} {sl23 : Array (Option Value)} {oc23 kV23 dc23 pm23 cd23 ct23 : Value}
    {f24 : Addr} {od24 an24 : Option Addr} {sl24 : Array (Option Value)} {oc24 kV24 dc24 pm24 cd24 ct24 : Value}
    {f25 : Addr} {od25 an25 : Option Addr} {sl25 : Array (Option Value)} {oc25 kV25 dc25 pm25 cd25 ct25 : Value}
    {f26 : Addr} {od26 an26 : Option Addr} {sl26 : Array (Option Value)} {oc26 kV26 dc26 pm26 cd26 ct26 : Value}
    {f27 : Addr} {od27 an27 : Option Addr} {sl27 : Array (Option Value)} {oc27 kV27 dc27 pm27 cd27 ct27 : Value}
    {f28 : Addr} {od28 an28 : Option Addr} {sl28 : Array (Option Value)} {oc28 kV28 dc28 pm28 cd28 ct28 : Value}
    {f29 : Addr} {od29 an29 : Option Addr} {sl29 : Array (Option Value)} {oc29 kV29 dc29 pm29 cd29 ct29 : Value}
    {f30 : Addr} {od30 an30 : Option Addr} {sl30 : Array (Option Value)} {oc30 kV30 dc30 pm30 cd30 ct30 : Value}
    {f31 : Addr} {od31 an31 : Option Addr} {sl31 : Array (Option Value)} {oc31 kV31 dc31 pm31 cd31 ct31 : Value}
    {f32 : Addr} {od32 an32 : Option Addr} {sl32 : Array (Option Value)} {oc32 kV32 dc32 pm32 cd32 ct32 : Value}
    {f33 : Addr} {od33 an33 : Option Addr} {sl33 : Array (Option Value)} {oc33 kV33 dc33 pm33 cd33 ct33 : Value}
    {f34 : Addr} {od34 an34 : Option Addr} {sl34 : Array (Option Value)} {oc34 kV34 dc34 pm34 cd34 ct34 : Value}
    {f35 : Addr} {od35 an35 : Option Addr} {sl35 : Array (Option Value)} {oc35 kV35 dc35 pm35 cd35 ct35 : Value}
    {f36 : Addr} {od36 an36 : Option Addr} {sl36 : Array (Option Value)} {oc36 kV36 dc36 pm36 cd36 ct36 : Value}
    {f37 : Addr} {od37 an37 : Option Addr} {sl37 : Array (Option Value)} {oc37 kV37 dc37 pm37 cd37 ct37 : Value}
    {f38 : Addr} {od38 an38 : Option Addr} {sl38 : Array (Option Value)} {oc38 kV38 dc38 pm38 cd38 ct38 : Value}
    {f39 : Addr} {od39 an39 : Option Addr} {sl39 : Array (Option Value)} {oc39 kV39 dc39 pm39 cd39 ct39 : Value}
    {f40 : Addr} {od40 an40 : Option Addr} {sl40 : Array (Option Value)} {oc40 kV40 dc40 pm40 cd40 ct40 : Value}
    {f41 : Addr} {od41 an41 : Option Addr} {sl41 : Array (Option Value)} {oc41 kV41 dc41 pm41 cd41 ct41 : Value}
    (a2 : PySem.W.nsIn K mainGlobals "power" = some (some (.ref f2))) (l2 : K.lookup f2 = some ⟨oc2, od2, .func (PySem.W.fnOf "power" "power" (defArgs s_power) (defBody s_power) (defScope s_power) .none kV2 dc2 pm2 an2 cd2 ct2), sl2⟩) (c2 : PySem.W.codeIn K cd2 "power" = true) (k2 : PySem.W.keepIn K (.ref f2) = true)
    (a3 : PySem.W.nsIn K mainGlobals "lowest" = some (some (.ref f3))) (l3 : K.lookup f3 = some ⟨oc3, od3, .func (PySem.W.fnOf "lowest" "lowest" (defArgs s_lowest) (defBody s_lowest) (defScope s_lowest) .none kV3 dc3 pm3 an3 cd3 ct3), sl3⟩) (c3 : PySem.W.codeIn K cd3 "lowest" = true) (k3 : PySem.W.keepIn K (.ref f3) = true)
    (a4 : PySem.W.nsIn K mainGlobals "root_of" = some (some (.ref f4))) (l4 : K.lookup f4 = some ⟨oc4, od4, .func (PySem.W.fnOf "root_of" "root_of" (defArgs s_root_of) (defBody s_root_of) (defScope s_root_of) .none kV4 dc4 pm4 an4 cd4 ct4), sl4⟩) (c4 : PySem.W.codeIn K cd4 "root_of" = true) (k4 : PySem.W.keepIn K (.ref f4) = true)
    (a5 : PySem.W.nsIn K mainGlobals "exact_root" = some (some (.ref f5))) (l5 : K.lookup f5 = some ⟨oc5, od5, .func (PySem.W.fnOf "exact_root" "exact_root" (defArgs s_exact_root) (defBody s_exact_root) (defScope s_exact_root) .none kV5 dc5 pm5 an5 cd5 ct5), sl5⟩) (c5 : PySem.W.codeIn K cd5 "exact_root" = true) (k5 : PySem.W.keepIn K (.ref f5) = true)
    (a7 : PySem.W.nsIn K mainGlobals "plus" = some (some (.ref f7))) (l7 : K.lookup f7 = some ⟨oc7, od7, .func (PySem.W.fnOf "plus" "plus" (defArgs s_plus) (defBody s_plus) (defScope s_plus) .none kV7 dc7 pm7 an7 cd7 ct7), sl7⟩) (c7 : PySem.W.codeIn K cd7 "plus" = true) (k7 : PySem.W.keepIn K (.ref f7) = true)
    (a8 : PySem.W.nsIn K mainGlobals "less" = some (some (.ref f8))) (l8 : K.lookup f8 = some ⟨oc8, od8, .func (PySem.W.fnOf "less" "less" (defArgs s_less) (defBody s_less) (defScope s_less) .none kV8 dc8 pm8 an8 cd8 ct8), sl8⟩) (c8 : PySem.W.codeIn K cd8 "less" = true) (k8 : PySem.W.keepIn K (.ref f8) = true)
    (a9 : PySem.W.nsIn K mainGlobals "times" = some (some (.ref f9))) (l9 : K.lookup f9 = some ⟨oc9, od9, .func (PySem.W.fnOf "times" "times" (defArgs s_times) (defBody s_times) (defScope s_times) .none kV9 dc9 pm9 an9 cd9 ct9), sl9⟩) (c9 : PySem.W.codeIn K cd9 "times" = true) (k9 : PySem.W.keepIn K (.ref f9) = true)
    (a10 : PySem.W.nsIn K mainGlobals "product" = some (some (.ref f10))) (l10 : K.lookup f10 = some ⟨oc10, od10, .func (PySem.W.fnOf "product" "product" (defArgs s_product) (defBody s_product) (defScope s_product) .none kV10 dc10 pm10 an10 cd10 ct10), sl10⟩) (c10 : PySem.W.codeIn K cd10 "product" = true) (k10 : PySem.W.keepIn K (.ref f10) = true)
    (a11 : PySem.W.nsIn K mainGlobals "root_of_fraction" = some (some (.ref f11))) (l11 : K.lookup f11 = some ⟨oc11, od11, .func (PySem.W.fnOf "root_of_fraction" "root_of_fraction" (defArgs s_root_of_fraction) (defBody s_root_of_fraction) (defScope s_root_of_fraction) .none kV11 dc11 pm11 an11 cd11 ct11), sl11⟩) (c11 : PySem.W.codeIn K cd11 "root_of_fraction" = true) (k11 : PySem.W.keepIn K (.ref f11) = true)
    (a13 : PySem.W.nsIn K mainGlobals "concord_curve" = some (some (.ref f13))) (l13 : K.lookup f13 = some ⟨oc13, od13, .func (PySem.W.fnOf "concord_curve" "concord_curve" (defArgs s_concord_curve) (defBody s_concord_curve) (defScope s_concord_curve) .none kV13 dc13 pm13 an13 cd13 ct13), sl13⟩) (c13 : PySem.W.codeIn K cd13 "concord_curve" = true) (k13 : PySem.W.keepIn K (.ref f13) = true)
    (a14 : PySem.W.nsIn K mainGlobals "concord_of" = some (some (.ref f14))) (l14 : K.lookup f14 = some ⟨oc14, od14, .func (PySem.W.fnOf "concord_of" "concord_of" (defArgs s_concord_of) (defBody s_concord_of) (defScope s_concord_of) .none kV14 dc14 pm14 an14 cd14 ct14), sl14⟩) (c14 : PySem.W.codeIn K cd14 "concord_of" = true) (k14 : PySem.W.keepIn K (.ref f14) = true)
    (a15 : PySem.W.nsIn K mainGlobals "concord_point" = some (some (.ref f15))) (l15 : K.lookup f15 = some ⟨oc15, od15, .func (PySem.W.fnOf "concord_point" "concord_point" (defArgs s_concord_point) (defBody s_concord_point) (defScope s_concord_point) .none kV15 dc15 pm15 an15 cd15 ct15), sl15⟩) (c15 : PySem.W.codeIn K cd15 "concord_point" = true) (k15 : PySem.W.keepIn K (.ref f15) = true)
    (a16 : PySem.W.nsIn K mainGlobals "angled_of" = some (some (.ref f16))) (l16 : K.lookup f16 = some ⟨oc16, od16, .func (PySem.W.fnOf "angled_of" "angled_of" (defArgs s_angled_of) (defBody s_angled_of) (defScope s_angled_of) .none kV16 dc16 pm16 an16 cd16 ct16), sl16⟩) (c16 : PySem.W.codeIn K cd16 "angled_of" = true) (k16 : PySem.W.keepIn K (.ref f16) = true)
    (a18 : PySem.W.nsIn K mainGlobals "_law_begun" = some (some (.ref f18))) (l18 : K.lookup f18 = some ⟨oc18, od18, .func (PySem.W.fnOf "_law_begun" "_law_begun" (defArgs s__law_begun) (defBody s__law_begun) (defScope s__law_begun) .none kV18 dc18 pm18 an18 cd18 ct18), sl18⟩) (c18 : PySem.W.codeIn K cd18 "_law_begun" = true) (k18 : PySem.W.keepIn K (.ref f18) = true)
    (a19 : PySem.W.nsIn K mainGlobals "_law_draw" = some (some (.ref f19))) (l19 : K.lookup f19 = some ⟨oc19, od19, .func (PySem.W.fnOf "_law_draw" "_law_draw" (defArgs s__law_draw) (defBody s__law_draw) (defScope s__law_draw) .none kV19 dc19 pm19 an19 cd19 ct19), sl19⟩) (c19 : PySem.W.codeIn K cd19 "_law_draw" = true) (k19 : PySem.W.keepIn K (.ref f19) = true)
    (a20 : PySem.W.nsIn K mainGlobals "_law_of" = some (some (.ref f20))) (l20 : K.lookup f20 = some ⟨oc20, od20, .func (PySem.W.fnOf "_law_of" "_law_of" (defArgs s__law_of) (defBody s__law_of) (defScope s__law_of) .none kV20 dc20 pm20 an20 cd20 ct20), sl20⟩) (c20 : PySem.W.codeIn K cd20 "_law_of" = true) (k20 : PySem.W.keepIn K (.ref f20) = true)
    (a22 : PySem.W.nsIn K mainGlobals "_law_common" = some (some (.ref f22))) (l22 : K.lookup f22 = some ⟨oc22, od22, .func (PySem.W.fnOf "_law_common" "_law_common" (defArgs s__law_common) (defBody s__law_common) (defScope s__law_common) .none kV22 dc22 pm22 an22 cd22 ct22), sl22⟩) (c22 : PySem.W.codeIn K cd22 "_law_common" = true) (k22 : PySem.W.keepIn K (.ref f22) = true)
    (a23 : PySem.W.nsIn K mainGlobals "_law_root" = some (some (.ref f23))) (l23 : K.lookup f23 = some ⟨oc23, od23, .func (PySem.W.fnOf "_law_root" "_law_root" (defArgs s__law_root) (defBody s__law_root) (defScope s__law_root) .none kV23 dc23 pm23 an23 cd23 ct23), sl23⟩) (c23 : PySem.W.codeIn K cd23 "_law_root" = true) (k23 : PySem.W.keepIn K (.ref f23) = true)
    (a24 : PySem.W.nsIn K mainGlobals "_law_cut" = some (some (.ref f24))) (l24 : K.lookup f24 = some ⟨oc24, od24, .func (PySem.W.fnOf "_law_cut" "_law_cut" (defArgs s__law_cut) (defBody s__law_cut) (defScope s__law_cut) .none kV24 dc24 pm24 an24 cd24 ct24), sl24⟩) (c24 : PySem.W.codeIn K cd24 "_law_cut" = true) (k24 : PySem.W.keepIn K (.ref f24) = true)
    (a25 : PySem.W.nsIn K mainGlobals "_law_plus" = some (some (.ref f25))) (l25 : K.lookup f25 = some ⟨oc25, od25, .func (PySem.W.fnOf "_law_plus" "_law_plus" (defArgs s__law_plus) (defBody s__law_plus) (defScope s__law_plus) .none kV25 dc25 pm25 an25 cd25 ct25), sl25⟩) (c25 : PySem.W.codeIn K cd25 "_law_plus" = true) (k25 : PySem.W.keepIn K (.ref f25) = true)
    (a26 : PySem.W.nsIn K mainGlobals "_law_less" = some (some (.ref f26))) (l26 : K.lookup f26 = some ⟨oc26, od26, .func (PySem.W.fnOf "_law_less" "_law_less" (defArgs s__law_less) (defBody s__law_less) (defScope s__law_less) .none kV26 dc26 pm26 an26 cd26 ct26), sl26⟩) (c26 : PySem.W.codeIn K cd26 "_law_less" = true) (k26 : PySem.W.keepIn K (.ref f26) = true)
    (a27 : PySem.W.nsIn K mainGlobals "_law_by" = some (some (.ref f27))) (l27 : K.lookup f27 = some ⟨oc27, od27, .func (PySem.W.fnOf "_law_by" "_law_by" (defArgs s__law_by) (defBody s__law_by) (defScope s__law_by) .none kV27 dc27 pm27 an27 cd27 ct27), sl27⟩) (c27 : PySem.W.codeIn K cd27 "_law_by" = true) (k27 : PySem.W.keepIn K (.ref f27) = true)
    (a28 : PySem.W.nsIn K mainGlobals "_law_over" = some (some (.ref f28))) (l28 : K.lookup f28 = some ⟨oc28, od28, .func (PySem.W.fnOf "_law_over" "_law_over" (defArgs s__law_over) (defBody s__law_over) (defScope s__law_over) .none kV28 dc28 pm28 an28 cd28 ct28), sl28⟩) (c28 : PySem.W.codeIn K cd28 "_law_over" = true) (k28 : PySem.W.keepIn K (.ref f28) = true)
    (a29 : PySem.W.nsIn K mainGlobals "_law_five" = some (some (.ref f29))) (l29 : K.lookup f29 = some ⟨oc29, od29, .func (PySem.W.fnOf "_law_five" "_law_five" (defArgs s__law_five) (defBody s__law_five) (defScope s__law_five) .none kV29 dc29 pm29 an29 cd29 ct29), sl29⟩) (c29 : PySem.W.codeIn K cd29 "_law_five" = true) (k29 : PySem.W.keepIn K (.ref f29) = true)
    (a30 : PySem.W.nsIn K mainGlobals "_law_cubic" = some (some (.ref f30))) (l30 : K.lookup f30 = some ⟨oc30, od30, .func (PySem.W.fnOf "_law_cubic" "_law_cubic" (defArgs s__law_cubic) (defBody s__law_cubic) (defScope s__law_cubic) .none kV30 dc30 pm30 an30 cd30 ct30), sl30⟩) (c30 : PySem.W.codeIn K cd30 "_law_cubic" = true) (k30 : PySem.W.keepIn K (.ref f30) = true)
    (a31 : PySem.W.nsIn K mainGlobals "_law_bent" = some (some (.ref f31))) (l31 : K.lookup f31 = some ⟨oc31, od31, .func (PySem.W.fnOf "_law_bent" "_law_bent" (defArgs s__law_bent) (defBody s__law_bent) (defScope s__law_bent) .none kV31 dc31 pm31 an31 cd31 ct31), sl31⟩) (c31 : PySem.W.codeIn K cd31 "_law_bent" = true) (k31 : PySem.W.keepIn K (.ref f31) = true)
    (a32 : PySem.W.nsIn K mainGlobals "_law_on" = some (some (.ref f32))) (l32 : K.lookup f32 = some ⟨oc32, od32, .func (PySem.W.fnOf "_law_on" "_law_on" (defArgs s__law_on) (defBody s__law_on) (defScope s__law_on) .none kV32 dc32 pm32 an32 cd32 ct32), sl32⟩) (c32 : PySem.W.codeIn K cd32 "_law_on" = true) (k32 : PySem.W.keepIn K (.ref f32) = true)
    (a33 : PySem.W.nsIn K mainGlobals "_law_turned" = some (some (.ref f33))) (l33 : K.lookup f33 = some ⟨oc33, od33, .func (PySem.W.fnOf "_law_turned" "_law_turned" (defArgs s__law_turned) (defBody s__law_turned) (defScope s__law_turned) .none kV33 dc33 pm33 an33 cd33 ct33), sl33⟩) (c33 : PySem.W.codeIn K cd33 "_law_turned" = true) (k33 : PySem.W.keepIn K (.ref f33) = true)
    (a34 : PySem.W.nsIn K mainGlobals "_law_sum" = some (some (.ref f34))) (l34 : K.lookup f34 = some ⟨oc34, od34, .func (PySem.W.fnOf "_law_sum" "_law_sum" (defArgs s__law_sum) (defBody s__law_sum) (defScope s__law_sum) .none kV34 dc34 pm34 an34 cd34 ct34), sl34⟩) (c34 : PySem.W.codeIn K cd34 "_law_sum" = true) (k34 : PySem.W.keepIn K (.ref f34) = true)
    (a35 : PySem.W.nsIn K mainGlobals "_law_times_of" = some (some (.ref f35))) (l35 : K.lookup f35 = some ⟨oc35, od35, .func (PySem.W.fnOf "_law_times_of" "_law_times_of" (defArgs s__law_times_of) (defBody s__law_times_of) (defScope s__law_times_of) .none kV35 dc35 pm35 an35 cd35 ct35), sl35⟩) (c35 : PySem.W.codeIn K cd35 "_law_times_of" = true) (k35 : PySem.W.keepIn K (.ref f35) = true)
    (a36 : PySem.W.nsIn K mainGlobals "_law_root_of" = some (some (.ref f36))) (l36 : K.lookup f36 = some ⟨oc36, od36, .func (PySem.W.fnOf "_law_root_of" "_law_root_of" (defArgs s__law_root_of) (defBody s__law_root_of) (defScope s__law_root_of) .none kV36 dc36 pm36 an36 cd36 ct36), sl36⟩) (c36 : PySem.W.codeIn K cd36 "_law_root_of" = true) (k36 : PySem.W.keepIn K (.ref f36) = true)
    (a37 : PySem.W.nsIn K mainGlobals "_law_concord" = some (some (.ref f37))) (l37 : K.lookup f37 = some ⟨oc37, od37, .func (PySem.W.fnOf "_law_concord" "_law_concord" (defArgs s__law_concord) (defBody s__law_concord) (defScope s__law_concord) .none kV37 dc37 pm37 an37 cd37 ct37), sl37⟩) (c37 : PySem.W.codeIn K cd37 "_law_concord" = true) (k37 : PySem.W.keepIn K (.ref f37) = true)
    (a38 : PySem.W.nsIn K mainGlobals "_law_drawn" = some (some (.ref f38))) (l38 : K.lookup f38 = some ⟨oc38, od38, .func (PySem.W.fnOf "_law_drawn" "_law_drawn" (defArgs s__law_drawn) (defBody s__law_drawn) (defScope s__law_drawn) .none kV38 dc38 pm38 an38 cd38 ct38), sl38⟩) (c38 : PySem.W.codeIn K cd38 "_law_drawn" = true) (k38 : PySem.W.keepIn K (.ref f38) = true)
    (a39 : PySem.W.nsIn K mainGlobals "_law_angle_right" = some (some (.ref f39))) (l39 : K.lookup f39 = some ⟨oc39, od39, .func (PySem.W.fnOf "_law_angle_right" "_law_angle_right" (defArgs s__law_angle_right) (defBody s__law_angle_right) (defScope s__law_angle_right) .none kV39 dc39 pm39 an39 cd39 ct39), sl39⟩) (c39 : PySem.W.codeIn K cd39 "_law_angle_right" = true) (k39 : PySem.W.keepIn K (.ref f39) = true)
    (a40 : PySem.W.nsIn K mainGlobals "_law_point_right" = some (some (.ref f40))) (l40 : K.lookup f40 = some ⟨oc40, od40, .func (PySem.W.fnOf "_law_point_right" "_law_point_right" (defArgs s__law_point_right) (defBody s__law_point_right) (defScope s__law_point_right) .none kV40 dc40 pm40 an40 cd40 ct40), sl40⟩) (c40 : PySem.W.codeIn K cd40 "_law_point_right" = true) (k40 : PySem.W.keepIn K (.ref f40) = true)
    (a41 : PySem.W.nsIn K mainGlobals "law" = some (some (.ref f41))) (l41 : K.lookup f41 = some ⟨oc41, od41, .func (PySem.W.fnOf "law" "law" (defArgs s_law) (defBody s_law) (defScope s_law) .none kV41 dc41 pm41 an41 cd41 ct41), sl41⟩) (c41 : PySem.W.codeIn K cd41 "law" = true) (k41 : PySem.W.keepIn K (.ref f41) = true)
    (z_gcd : PySem.W.nsIn K mainGlobals "gcd" = some (some (.builtin "math.gcd")))
    (z_isqrt : PySem.W.nsIn K mainGlobals "isqrt" = some (some (.builtin "math.isqrt")))
    (z_int : PySem.W.nsIn K mainGlobals "int" = some none)
    (z_len : PySem.W.nsIn K mainGlobals "len" = some none)
    (z_tuple : PySem.W.nsIn K mainGlobals "tuple" = some none)
    (z_abs : PySem.W.nsIn K mainGlobals "abs" = some none)
    (z_range : PySem.W.nsIn K mainGlobals "range" = some none)
    (z_repr : PySem.W.nsIn K mainGlobals "repr" = some none)
    : ∃ fd : FuncData, (∀ (s : Shared) (v : Value), BindsTo s fd ⟨[v], []⟩ [("script", v)]) ∧ ∀ base : Heap, K.In base → base.Ns mainGlobals mg → FnG P w K mg base 8 fa fd ["script"] (sp_law K) := by
  have T : Tx K mg := ⟨PySem.W.mg_of X G z_gcd, PySem.W.mg_of X G z_isqrt, PySem.W.mg_none_of X G z_int, PySem.W.mg_none_of X G z_len, PySem.W.mg_none_of X G z_tuple, PySem.W.mg_none_of X G z_abs, PySem.W.mg_none_of X G z_range, PySem.W.mg_none_of X G z_repr⟩
  have d2 : Df K mg "power" s_power ["a", "e"] := df_mk X G a2 l2 c2 k2 (fun _ _ _ _ _ _ us hl => match us, hl with | [_, _], _ => rfl)
  have d3 : Df K mg "lowest" s_lowest ["n", "d"] := df_mk X G a3 l3 c3 k3 (fun _ _ _ _ _ _ us hl => match us, hl with | [_, _], _ => rfl)
  have d4 : Df K mg "root_of" s_root_of ["n", "k"] := df_mk X G a4 l4 c4 k4 (fun _ _ _ _ _ _ us hl => match us, hl with | [_, _], _ => rfl)
  have d5 : Df K mg "exact_root" s_exact_root ["n", "k"] := df_mk X G a5 l5 c5 k5 (fun _ _ _ _ _ _ us hl => match us, hl with | [_, _], _ => rfl)
  have d7 : Df K mg "plus" s_plus ["f", "g"] := df_mk X G a7 l7 c7 k7 (fun _ _ _ _ _ _ us hl => match us, hl with | [_, _], _ => rfl)
  have d8 : Df K mg "less" s_less ["f", "g"] := df_mk X G a8 l8 c8 k8 (fun _ _ _ _ _ _ us hl => match us, hl with | [_, _], _ => rfl)
  have d9 : Df K mg "times" s_times ["f", "g"] := df_mk X G a9 l9 c9 k9 (fun _ _ _ _ _ _ us hl => match us, hl with | [_, _], _ => rfl)
  have d10 : Df K mg "product" s_product ["fractions"] := df_mk X G a10 l10 c10 k10 (fun _ _ _ _ _ _ us hl => match us, hl with | [_], _ => rfl)
  have d11 : Df K mg "root_of_fraction" s_root_of_fraction ["f", "k"] := df_mk X G a11 l11 c11 k11 (fun _ _ _ _ _ _ us hl => match us, hl with | [_, _], _ => rfl)
  have d13 : Df K mg "concord_curve" s_concord_curve ["m", "n"] := df_mk X G a13 l13 c13 k13 (fun _ _ _ _ _ _ us hl => match us, hl with | [_, _], _ => rfl)
  have d14 : Df K mg "concord_of" s_concord_of ["m", "n", "point"] := df_mk X G a14 l14 c14 k14 (fun _ _ _ _ _ _ us hl => match us, hl with | [_, _, _], _ => rfl)
  have d15 : Df K mg "concord_point" s_concord_point ["m", "n", "concord"] := df_mk X G a15 l15 c15 k15 (fun _ _ _ _ _ _ us hl => match us, hl with | [_, _, _], _ => rfl)
  have d16 : Df K mg "angled_of" s_angled_of ["concord"] := df_mk X G a16 l16 c16 k16 (fun _ _ _ _ _ _ us hl => match us, hl with | [_], _ => rfl)
  have d18 : Df K mg "_law_begun" s__law_begun ["script", "k"] := df_mk X G a18 l18 c18 k18 (fun _ _ _ _ _ _ us hl => match us, hl with | [_, _], _ => rfl)
  have d19 : Df K mg "_law_draw" s__law_draw ["m", "below"] := df_mk X G a19 l19 c19 k19 (fun _ _ _ _ _ _ us hl => match us, hl with | [_, _], _ => rfl)
  have d20 : Df K mg "_law_of" s__law_of ["m", "some"] := df_mk X G a20 l20 c20 k20 (fun _ _ _ _ _ _ us hl => match us, hl with | [_, _], _ => rfl)
  have d22 : Df K mg "_law_common" s__law_common ["a", "b"] := df_mk X G a22 l22 c22 k22 (fun _ _ _ _ _ _ us hl => match us, hl with | [_, _], _ => rfl)
  have d23 : Df K mg "_law_root" s__law_root ["n"] := df_mk X G a23 l23 c23 k23 (fun _ _ _ _ _ _ us hl => match us, hl with | [_], _ => rfl)
  have d24 : Df K mg "_law_cut" s__law_cut ["n", "d"] := df_mk X G a24 l24 c24 k24 (fun _ _ _ _ _ _ us hl => match us, hl with | [_, _], _ => rfl)
  have d25 : Df K mg "_law_plus" s__law_plus ["f", "g"] := df_mk X G a25 l25 c25 k25 (fun _ _ _ _ _ _ us hl => match us, hl with | [_, _], _ => rfl)
  have d26 : Df K mg "_law_less" s__law_less ["f", "g"] := df_mk X G a26 l26 c26 k26 (fun _ _ _ _ _ _ us hl => match us, hl with | [_, _], _ => rfl)
  have d27 : Df K mg "_law_by" s__law_by ["f", "g"] := df_mk X G a27 l27 c27 k27 (fun _ _ _ _ _ _ us hl => match us, hl with | [_, _], _ => rfl)
  have d28 : Df K mg "_law_over" s__law_over ["f", "g"] := df_mk X G a28 l28 c28 k28 (fun _ _ _ _ _ _ us hl => match us, hl with | [_, _], _ => rfl)
  have d29 : Df K mg "_law_five" s__law_five ["curve"] := df_mk X G a29 l29 c29 k29 (fun _ _ _ _ _ _ us hl => match us, hl with | [_], _ => rfl)
  have d30 : Df K mg "_law_cubic" s__law_cubic ["five", "x"] := df_mk X G a30 l30 c30 k30 (fun _ _ _ _ _ _ us hl => match us, hl with | [_, _], _ => rfl)
  have d31 : Df K mg "_law_bent" s__law_bent ["five", "x"] := df_mk X G a31 l31 c31 k31 (fun _ _ _ _ _ _ us hl => match us, hl with | [_, _], _ => rfl)
  have d32 : Df K mg "_law_on" s__law_on ["five", "point"] := df_mk X G a32 l32 c32 k32 (fun _ _ _ _ _ _ us hl => match us, hl with | [_, _], _ => rfl)
  have d33 : Df K mg "_law_turned" s__law_turned ["five", "point"] := df_mk X G a33 l33 c33 k33 (fun _ _ _ _ _ _ us hl => match us, hl with | [_, _], _ => rfl)
  have d34 : Df K mg "_law_sum" s__law_sum ["five", "one", "two"] := df_mk X G a34 l34 c34 k34 (fun _ _ _ _ _ _ us hl => match us, hl with | [_, _, _], _ => rfl)
  have d35 : Df K mg "_law_times_of" s__law_times_of ["five", "n", "point"] := df_mk X G a35 l35 c35 k35 (fun _ _ _ _ _ _ us hl => match us, hl with | [_, _, _], _ => rfl)
  have d36 : Df K mg "_law_root_of" s__law_root_of ["f"] := df_mk X G a36 l36 c36 k36 (fun _ _ _ _ _ _ us hl => match us, hl with | [_], _ => rfl)
  have d37 : Df K mg "_law_concord" s__law_concord ["m", "n", "point"] := df_mk X G a37 l37 c37 k37 (fun _ _ _ _ _ _ us hl => match us, hl with | [_, _, _], _ => rfl)
  have d38 : Df K mg "_law_drawn" s__law_drawn ["m"] := df_mk X G a38 l38 c38 k38 (fun _ _ _ _ _ _ us hl => match us, hl with | [_], _ => rfl)
  have d39 : Df K mg "_law_angle_right" s__law_angle_right ["m", "n", "concord"] := df_mk X G a39 l39 c39 k39 (fun _ _ _ _ _ _ us hl => match us, hl with | [_, _, _], _ => rfl)
  have d40 : Df K mg "_law_point_right" s__law_point_right ["m", "n", "point"] := df_mk X G a40 l40 c40 k40 (fun _ _ _ _ _ _ us hl => match us, hl with | [_, _, _], _ => rfl)
  refine law_fd X G hfa a41 l41 c41 k41 (fun _ _ _ _ _ _ us hl => match us, hl with | [_], _ => rfl) (fun fd F base => ?_)
  have c_power := k_power (P := P) (w := w) (base := base) T d2 
  have c_lowest := k_lowest (P := P) (w := w) (base := base) T d3 
  have c_concord_curve := k_concord_curve (P := P) (w := w) (base := base) T d13 
  have c_law_begun := k_law_begun (P := P) (w := w) (base := base) T d18 
  have c_law_draw := k_law_draw (P := P) (w := w) (base := base) T d19 
  have c_law_common := k_law_common (P := P) (w := w) (base := base) T d22 
  have c_law_root := k_law_root (P := P) (w := w) (base := base) T d23 
  have c_law_five := k_law_five (P := P) (w := w) (base := base) T d29 
  have c_root_of := k_root_of (P := P) (w := w) (base := base) T d4 c_power
  have c_plus := k_plus (P := P) (w := w) (base := base) T d7 c_lowest
  have c_less := k_less (P := P) (w := w) (base := base) T d8 c_lowest
  have c_times := k_times (P := P) (w := w) (base := base) T d9 c_lowest
  have c_law_of := k_law_of (P := P) (w := w) (base := base) T d20 c_law_draw
  have c_law_cut := k_law_cut (P := P) (w := w) (base := base) T d24 c_law_common
  have c_law_root_of := k_law_root_of (P := P) (w := w) (base := base) T d36 c_law_root
  have c_exact_root := k_exact_root (P := P) (w := w) (base := base) T d5 c_root_of c_power
  have c_product := k_product (P := P) (w := w) (base := base) T d10 c_times
  have c_angled_of := k_angled_of (P := P) (w := w) (base := base) T d16 c_plus c_less c_times
  have c_law_plus := k_law_plus (P := P) (w := w) (base := base) T d25 c_law_cut
  have c_law_less := k_law_less (P := P) (w := w) (base := base) T d26 c_law_cut
  have c_law_by := k_law_by (P := P) (w := w) (base := base) T d27 c_law_cut
  have c_law_over := k_law_over (P := P) (w := w) (base := base) T d28 c_law_cut
  have c_law_cubic := k_law_cubic (P := P) (w := w) (base := base) T d30 c_law_cut
  have c_law_bent := k_law_bent (P := P) (w := w) (base := base) T d31 c_law_cut
  have c_law_drawn := k_law_drawn (P := P) (w := w) (base := base) T d38 c_law_draw c_law_cut
  have c_root_of_fraction := k_root_of_fraction (P := P) (w := w) (base := base) T d11 c_exact_root
  have c_concord_point := k_concord_point (P := P) (w := w) (base := base) T d15 c_times c_product
  have c_law_on := k_law_on (P := P) (w := w) (base := base) T d32 c_law_by c_law_cubic c_law_plus c_law_bent
  have c_law_turned := k_law_turned (P := P) (w := w) (base := base) T d33 c_law_less c_law_bent
  have c_law_concord := k_law_concord (P := P) (w := w) (base := base) T d37 c_law_root_of c_law_plus
  have c_law_angle_right := k_law_angle_right (P := P) (w := w) (base := base) T d39 c_law_by c_law_less c_law_plus c_law_cut c_angled_of
  have c_concord_of := k_concord_of (P := P) (w := w) (base := base) T d14 c_root_of_fraction c_plus
  have c_law_sum := k_law_sum (P := P) (w := w) (base := base) T d34 c_law_less c_law_turned c_law_plus c_law_over c_law_by c_law_bent
  have c_law_point_right := k_law_point_right (P := P) (w := w) (base := base) T d40 c_law_concord c_law_angle_right c_concord_of c_concord_point c_law_by
  have c_law_times_of := k_law_times_of (P := P) (w := w) (base := base) T d35 c_law_turned c_law_sum
  exact k_law T F c_law_begun c_law_drawn c_concord_of c_law_five c_law_by c_law_times_of c_law_of c_law_on c_concord_curve c_concord_point c_law_concord c_law_point_right c_law_sum
end K53
open PySem PySem.W PyProof.Rows
set_option maxRecDepth 100000 in
set_option maxHeartbeats 0 in
theorem PySem.Challenge.cw_pointsum_k53_whole_concords_holds : PySem.Challenge.rw_pointsum_k53_whole_concords.Holds := by
  w_on; o_law; k_head; (case hw => w_witness2)
  k_fill
  refine Gd.walk_g (l := PySem.Challenge.rw_pointsum_k53_whole_concords) (n := 63) (k := 8) (x := "script") (sp := fun K => K53.sp_law K) rfl (by decide) rfl ⟨rfl, by decide, by decide⟩ (fun w h Y => PySem.W.kIn_of Y) ?F (fun K H a ns hl hS => ⟨a, ns, rfl, hS, hl, fun _ => rfl⟩)
  case F =>
    intro w mg fa h KX G hmg
    refine' K53.all_mk KX G hmg ?a2 ?l2 ?c2 ?k2 ?a3 ?l3 ?c3 ?k3 ?a4 ?l4 ?c4 ?k4 ?a5 ?l5 ?c5 ?k5 ?a7 ?l7 ?c7 ?k7 ?a8 ?l8 ?c8 ?k8 ?a9 ?l9 ?c9 ?k9 ?a10 ?l10 ?c10 ?k10 ?a11 ?l11 ?c11 ?k11 ?a13 ?l13 ?c13 ?k13 ?a14 ?l14 ?c14 ?k14 ?a15 ?l15 ?c15 ?k15 ?a16 ?l16 ?c16 ?k16 ?a18 ?l18 ?c18 ?k18 ?a19 ?l19 ?c19 ?k19 ?a20 ?l20 ?c20 ?k20 ?a22 ?l22 ?c22 ?k22 ?a23 ?l23 ?c23 ?k23 ?a24 ?l24 ?c24 ?k24 ?a25 ?l25 ?c25 ?k25 ?a26 ?l26 ?c26 ?k26 ?a27 ?l27 ?c27 ?k27 ?a28 ?l28 ?c28 ?k28 ?a29 ?l29 ?c29 ?k29 ?a30 ?l30 ?c30 ?k30 ?a31 ?l31 ?c31 ?k31 ?a32 ?l32 ?c32 ?k32 ?a33 ?l33 ?c33 ?k33 ?a34 ?l34 ?c34 ?k34 ?a35 ?l35 ?c35 ?k35 ?a36 ?l36 ?c36 ?k36 ?a37 ?l37 ?c37 ?k37 ?a38 ?l38 ?c38 ?k38 ?a39 ?l39 ?c39 ?k39 ?a40 ?l40 ?c40 ?k40 ?a41 ?l41 ?c41 ?k41 ?z_gcd ?z_isqrt ?z_int ?z_len ?z_tuple ?z_abs ?z_range ?z_repr
    (case a2 => k_is); (case l2 => k_is); (case c2 => k_is); (case k2 => k_is); (case a3 => k_is); (case l3 => k_is); (case c3 => k_is); (case k3 => k_is)
    (case a4 => k_is); (case l4 => k_is); (case c4 => k_is); (case k4 => k_is); (case a5 => k_is); (case l5 => k_is); (case c5 => k_is); (case k5 => k_is)
    (case a7 => k_is); (case l7 => k_is); (case c7 => k_is); (case k7 => k_is); (case a8 => k_is); (case l8 => k_is); (case c8 => k_is); (case k8 => k_is)
    (case a9 => k_is); (case l9 => k_is); (case c9 => k_is); (case k9 => k_is); (case a10 => k_is); (case l10 => k_is); (case c10 => k_is); (case k10 => k_is)
    (case a11 => k_is); (case l11 => k_is); (case c11 => k_is); (case k11 => k_is); (case a13 => k_is); (case l13 => k_is); (case c13 => k_is); (case k13 => k_is)
    (case a14 => k_is); (case l14 => k_is); (case c14 => k_is); (case k14 => k_is); (case a15 => k_is); (case l15 => k_is); (case c15 => k_is); (case k15 => k_is)
    (case a16 => k_is); (case l16 => k_is); (case c16 => k_is); (case k16 => k_is); (case a18 => k_is); (case l18 => k_is); (case c18 => k_is); (case k18 => k_is)
    (case a19 => k_is); (case l19 => k_is); (case c19 => k_is); (case k19 => k_is); (case a20 => k_is); (case l20 => k_is); (case c20 => k_is); (case k20 => k_is)
    (case a22 => k_is); (case l22 => k_is); (case c22 => k_is); (case k22 => k_is); (case a23 => k_is); (case l23 => k_is); (case c23 => k_is); (case k23 => k_is)
    (case a24 => k_is); (case l24 => k_is); (case c24 => k_is); (case k24 => k_is); (case a25 => k_is); (case l25 => k_is); (case c25 => k_is); (case k25 => k_is)
    (case a26 => k_is); (case l26 => k_is); (case c26 => k_is); (case k26 => k_is); (case a27 => k_is); (case l27 => k_is); (case c27 => k_is); (case k27 => k_is)
    (case a28 => k_is); (case l28 => k_is); (case c28 => k_is); (case k28 => k_is); (case a29 => k_is); (case l29 => k_is); (case c29 => k_is); (case k29 => k_is)
    (case a30 => k_is); (case l30 => k_is); (case c30 => k_is); (case k30 => k_is); (case a31 => k_is); (case l31 => k_is); (case c31 => k_is); (case k31 => k_is)
    (case a32 => k_is); (case l32 => k_is); (case c32 => k_is); (case k32 => k_is); (case a33 => k_is); (case l33 => k_is); (case c33 => k_is); (case k33 => k_is)
    (case a34 => k_is); (case l34 => k_is); (case c34 => k_is); (case k34 => k_is); (case a35 => k_is); (case l35 => k_is); (case c35 => k_is); (case k35 => k_is)
    (case a36 => k_is); (case l36 => k_is); (case c36 => k_is); (case k36 => k_is); (case a37 => k_is); (case l37 => k_is); (case c37 => k_is); (case k37 => k_is)
    (case a38 => k_is); (case l38 => k_is); (case c38 => k_is); (case k38 => k_is); (case a39 => k_is); (case l39 => k_is); (case c39 => k_is); (case k39 => k_is)
    (case a40 => k_is); (case l40 => k_is); (case c40 => k_is); (case k40 => k_is); (case a41 => k_is); (case l41 => k_is); (case c41 => k_is); (case k41 => k_is)
    (case z_gcd => k_is); (case z_isqrt => k_is); (case z_int => k_is); (case z_len => k_is); (case z_tuple => k_is); (case z_abs => k_is); (case z_range => k_is); (case z_repr => k_is)
